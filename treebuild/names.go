package treebuild

// isDocumentPart reports whether there is one element with that name in each document.
func isDocumentPart(name string) bool {
	return name == "html" || name == "head" || name == "body"
}

// isFormatting reports whether elements with that name are opened again if something else closes them.
func isFormatting(name string) bool {
	switch name {
	case "a", "b", "code", "em", "i", "s", "small", "strong", "u":
		return true
	}
	return false
}

// isHeadElement reports whether elements with that name are put into the head, as long as there is no body.
func isHeadElement(name string) bool {
	switch name {
	case "base", "link", "meta", "script", "style", "title":
		return true
	}
	return false
}

// isBlock reports whether elements with that name end a paragraph.
func isBlock(name string) bool {
	switch name {
	case "address", "article", "blockquote", "div", "footer", "form", "header", "hr", "main", "nav", "ol", "p", "pre", "section", "table", "ul":
		return true
	}
	return isHeading(name)
}

func isHeading(name string) bool {
	return len(name) == 2 && name[0] == 'h' && name[1] >= '1' && name[1] <= '6'
}

// isSection reports whether elements with that name contain rows of a table.
func isSection(name string) bool {
	return name == "tbody" || name == "tfoot" || name == "thead"
}

func isCell(name string) bool { return name == "td" || name == "th" }

func isTablePart(name string) bool {
	return isSection(name) || isCell(name) || name == "caption" || name == "tr"
}

// isTableFrame reports whether elements with that name have only table parts as children: anything else is fostered.
func isTableFrame(name string) bool {
	return name == "table" || name == "tr" || isSection(name)
}

// holdsPart reports whether a table part belongs into an element with that name, perhaps with a section and a row between them.
func holdsPart(name, part string) bool {
	switch {
	case isSection(name):
		return part == "tr" || isCell(part)
	case name == "tr":
		return isCell(part)
	}
	return name == "table"
}

// isBarrier reports whether the search for an open element ends at one with that name.
func isBarrier(name string) bool {
	switch name {
	case "button", "caption", "html", "table", "td", "th":
		return true
	}
	return false
}

// keepsFormatting reports whether a formatting element cannot be closed by its name from within an element with that name.
func keepsFormatting(name string) bool {
	return isBlock(name) || isTablePart(name) || name == "li"
}

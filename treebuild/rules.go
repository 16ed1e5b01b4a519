package treebuild

import (
	"slices"

	"knapsack/api"
	"knapsack/markup"
	"knapsack/text"
	"knapsack/tree"
)

// text carries out the rules of a text.
func (s *step) text(data string) {
	name := s.currentName()
	if markup.IsRaw(name) || markup.IsPlain(name) {
		s.insertText(data)
		return
	}
	if text.Blank(data) && (s.Body == 0 || isTableFrame(name)) {
		return
	}
	s.ensureBody(nil)
	s.reopen()
	s.insertText(data)
}

// start carries out the rules of a start tag.
func (s *step) start(token markup.Token) {
	switch {
	case isDocumentPart(token.Name):
		s.startDocumentPart(token.Name, token.Attrs)
	case isHeadElement(token.Name) && s.Body == 0:
		s.ensureHead(nil)
		s.openHead()
		s.open(token)
	case isTablePart(token.Name):
		s.startTablePart(token)
	default:
		s.startOther(token)
	}
}

// openHead makes html and head the open elements.
func (s *step) openHead() { s.Open = []api.Handle{s.Html, s.Head} }

// open inserts the element of a start tag that is no table part, and appends it to the open ones unless it is void.
func (s *step) open(token markup.Token) {
	h := s.insert(s.make(tree.Element, token.Name, "", token.Attrs))
	if token.Name == "link" {
		s.event.Kind, s.event.Node = Link, h
	}
	if !markup.IsVoid(token.Name) {
		s.push(h)
	}
}

// startDocumentPart carries out the rules of the start tags html, head and body.
func (s *step) startDocumentPart(name string, attrs []api.Attr) {
	switch {
	case s.isFragment():
		// The parent stands for all three, but keeps its attributes.
	case name == "html":
		s.ensureHtml(attrs)
		s.addAttrs(s.Html, attrs)
	case name == "body":
		s.ensureBody(attrs)
		s.addAttrs(s.Body, attrs)
	case s.Head == 0 && s.Body == 0:
		s.ensureHead(attrs)
		s.openHead()
	}
}

// addAttrs adds the attributes that an element does not have. One that the tree refuses is left out.
func (s *step) addAttrs(h api.Handle, attrs []api.Attr) {
	for _, attr := range attrs {
		if _, has := s.tree.Attr(h, attr.Name); !has {
			records, _ := s.tree.SetAttr(h, attr.Name, attr.Value)
			s.note(records)
		}
	}
}

// startTablePart carries out the rules of the start tag of a table part.
func (s *step) startTablePart(token markup.Token) {
	s.ensureBody(nil)
	if s.lastOpen("table") < 0 {
		return
	}
	// A table holds every part: the last element that does is the last table, or comes after it.
	i := s.lastOf(func(name string) bool { return holdsPart(name, token.Name) })
	if i+1 < len(s.Open) {
		s.close(i + 1)
	}
	s.Reopen = nil
	if s.currentName() == "table" && (token.Name == "tr" || isCell(token.Name)) {
		s.openPart("tbody", nil)
	}
	if isSection(s.currentName()) && isCell(token.Name) {
		s.openPart("tr", nil)
	}
	s.openPart(token.Name, token.Attrs)
}

// openPart inserts a table part into the current node, and appends it to the open elements.
func (s *step) openPart(name string, attrs []api.Attr) {
	s.push(s.element(s.current(), name, attrs))
}

// startOther carries out the rules of the start tag of any other element.
func (s *step) startOther(token markup.Token) {
	name := token.Name
	s.ensureBody(nil)
	if name == "form" && s.lastOpen("form") >= 0 {
		return
	}
	s.closeAhead(name)
	if !isBlock(name) && !isHeadElement(name) && name != "li" {
		s.reopen()
	}
	s.open(token)
}

// closeAhead closes what cannot go on when an element with that name begins.
func (s *step) closeAhead(name string) {
	switch {
	case name == "li":
		s.close(s.findName("li"))
		s.close(s.findName("p"))
	case isBlock(name):
		s.close(s.findName("p"))
		if isHeading(name) && isHeading(s.currentName()) {
			s.close(len(s.Open) - 1)
		}
	case name == "button":
		s.close(s.findName("button"))
	case name == "a":
		s.endFormatting("a")
	}
}

// end carries out the rules of an end tag.
func (s *step) end(name string) {
	switch {
	case isDocumentPart(name):
		if name == "head" && s.current() == s.Head && !s.isFragment() {
			s.pop()
		}
	case name == "br":
		s.start(markup.Token{Kind: markup.Start, Name: "br"})
	case s.Body == 0 && name != "p":
		s.endBeforeBody(name)
	case name == "p":
		s.endParagraph()
	case isFormatting(name):
		s.endFormatting(name)
	case name == "table" || isTablePart(name):
		s.endTablePart(name)
	case isHeading(name):
		s.close(s.find(isHeading))
	default:
		s.endOther(name)
	}
}

// endBeforeBody carries out the rule of an end tag as long as there is no body.
func (s *step) endBeforeBody(name string) {
	if h := s.current(); s.name(h) == name {
		s.pop()
		s.complete(h, name)
	}
}

// complete says that an element was closed by its end tag, if somebody waits for this.
func (s *step) complete(h api.Handle, name string) {
	switch name {
	case "script":
		s.event.Kind, s.event.Node = Script, h
	case "style":
		s.event.Kind, s.event.Node = Sheet, h
	}
}

// endParagraph closes a p, which is inserted if there is none.
func (s *step) endParagraph() {
	s.ensureBody(nil)
	if s.findName("p") < 0 {
		s.open(markup.Token{Kind: markup.Start, Name: "p"})
	}
	s.close(s.findName("p"))
}

// endFormatting closes a formatting element, unless what is still open confines it; one that is closed already is not opened again.
func (s *step) endFormatting(name string) {
	i := s.findName(name)
	switch {
	case i < 0:
		s.forget(name)
	case !slices.ContainsFunc(s.Open[i+1:], func(h api.Handle) bool { return keepsFormatting(s.name(h)) }):
		s.close(i)
	}
}

// forget removes the last of the elements with that name that are to be opened again.
func (s *step) forget(name string) {
	for i, h := range slices.Backward(s.Reopen) {
		if s.name(h) == name {
			s.Reopen = slices.Concat(s.Reopen[:i], s.Reopen[i+1:])
			return
		}
	}
}

// endTablePart closes a table or a part of the last one.
func (s *step) endTablePart(name string) {
	table := s.lastOpen("table")
	if i := s.lastOpen(name); table >= 0 && i >= table {
		s.close(i)
	}
}

// endOther closes the element that is found by its name.
func (s *step) endOther(name string) {
	if i := s.findName(name); s.mayClose(i) {
		h := s.Open[i]
		s.close(i)
		s.complete(h, name)
	}
}

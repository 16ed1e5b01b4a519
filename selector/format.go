package selector

import (
	"strconv"
	"strings"
)

// Format returns the canonical text of a list of selectors.
func Format(list []Selector) string {
	var b strings.Builder
	for i, s := range list {
		if i > 0 {
			b.WriteString(", ")
		}
		writeSelector(&b, s)
	}
	return b.String()
}

func writeSelector(b *strings.Builder, s Selector) {
	for i, part := range s.Parts {
		if i > 0 {
			b.WriteString(combinator(part.Join))
		}
		writePart(b, part.Type, part.Tests)
	}
}

func combinator(join int) string {
	switch join {
	case Descendant:
		return " "
	case Child:
		return " > "
	case Adjacent:
		return " + "
	case Sibling:
		return " ~ "
	}
	return ""
}

// writePart writes a part with that type and these tests.
func writePart(b *strings.Builder, name string, tests []Test) {
	if name == "" && len(tests) == 0 {
		name = "*"
	}
	b.WriteString(name)
	for _, test := range tests {
		writeTest(b, test)
	}
}

func writeTest(b *strings.Builder, test Test) {
	switch test.Kind {
	case Id:
		b.WriteString("#" + test.Name)
	case Class:
		b.WriteString("." + test.Name)
	case Exists:
		b.WriteString("[" + test.Name + "]")
	case Equals:
		writeComparison(b, test, "=")
	case Word:
		writeComparison(b, test, "~=")
	case Prefix:
		writeComparison(b, test, "^=")
	case Not:
		b.WriteString(":not(")
		writePart(b, test.Name, test.Not)
		b.WriteString(")")
	default:
		b.WriteString(pseudo(test))
	}
}

// writeComparison writes a test of the value of an attribute.
func writeComparison(b *strings.Builder, test Test, operator string) {
	quote := `"`
	if strings.Contains(test.Value, quote) {
		quote = "'"
	}
	b.WriteString("[" + test.Name + operator + quote + test.Value + quote + "]")
}

func pseudo(test Test) string {
	switch test.Kind {
	case First:
		return ":first-child"
	case Final:
		return ":last-child"
	case Nth:
		return ":nth-child(" + nth(test.A, test.B) + ")"
	case Empty:
		return ":empty"
	case Focus:
		return ":focus"
	case Hover:
		return ":hover"
	case Checked:
		return ":checked"
	}
	return ""
}

// nth returns the text of the positions a k + b.
func nth(a, b int) string {
	offset := strconv.Itoa(b)
	if a == 0 {
		return offset
	}
	switch {
	case b == 0:
		offset = ""
	case b > 0:
		offset = "+" + offset
	}
	switch a {
	case 1:
		return "n" + offset
	case -1:
		return "-n" + offset
	}
	return strconv.Itoa(a) + "n" + offset
}

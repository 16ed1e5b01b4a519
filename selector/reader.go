package selector

import (
	"strings"

	"knapsack/text"
)

// maxDigits is the greatest number of digits of a number.
const maxDigits = 6

// reader reads a text from its beginning. Each of its methods reads what it is named after, and reports whether that is there; what it leaves behind if not is of no use.
type reader struct {
	rest    string // what is not read yet
	negated bool   // a part within :not( ) is read
}

// skip skips a mark, if it is next.
func (r *reader) skip(mark string) bool {
	rest, ok := strings.CutPrefix(r.rest, mark)
	r.rest = rest
	return ok
}

// word skips a word whose letters may be of either case, if it is next.
func (r *reader) word(lower string) bool {
	size := len(lower)
	if len(r.rest) < size || text.Lower(r.rest[:size]) != lower {
		return false
	}
	r.rest = r.rest[size:]
	return true
}

// next reports whether one of some characters is next.
func (r *reader) next(characters string) bool {
	return r.rest != "" && strings.IndexByte(characters, r.rest[0]) >= 0
}

// take reads the characters up to the first one for which in is false.
func (r *reader) take(in func(c byte) bool) string {
	size := 0
	for size < len(r.rest) && in(r.rest[size]) {
		size++
	}
	taken := r.rest[:size]
	r.rest = r.rest[size:]
	return taken
}

// space skips white space, and reports whether there is any.
func (r *reader) space() bool { return r.take(text.IsSpace) != "" }

// list skips the white space around the selectors; that behind each of them is what combinator has skipped.
func (r *reader) list() ([]Selector, bool) {
	var list []Selector
	for {
		r.space()
		s, ok := r.selector()
		if !ok {
			return nil, false
		}
		list = append(list, s)
		if !r.skip(",") {
			return list, true
		}
	}
}

func (r *reader) selector() (Selector, bool) {
	var s Selector
	join := 0
	for {
		part, ok := r.part()
		if !ok {
			return Selector{}, false
		}
		part.Join = join
		s.Parts = append(s.Parts, part)
		join = r.combinator()
		if join == 0 {
			return s, true
		}
	}
}

// combinator returns 0 if the selector ends, and has skipped the white space behind it then.
func (r *reader) combinator() int {
	spaced := r.space()
	join := 0
	switch {
	case r.skip(">"):
		join = Child
	case r.skip("+"):
		join = Adjacent
	case r.skip("~"):
		join = Sibling
	case spaced && r.rest != "" && !r.next(","):
		join = Descendant
	}
	r.space()
	return join
}

func (r *reader) part() (Part, bool) {
	star := r.skip("*")
	var p Part
	if !star {
		p.Type = text.Lower(r.identifier())
	}
	for r.next("#.[:") {
		test, ok := r.test()
		if !ok {
			return Part{}, false
		}
		p.Tests = append(p.Tests, test)
	}
	return p, star || p.Type != "" || len(p.Tests) > 0
}

func (r *reader) test() (Test, bool) {
	switch {
	case r.skip("#"):
		return r.named(Id)
	case r.skip("."):
		return r.named(Class)
	case r.skip("["):
		return r.attribute()
	case r.skip(":"):
		return r.pseudo()
	}
	return Test{}, false
}

// named reads what follows # or . in a test of that kind.
func (r *reader) named(kind int) (Test, bool) {
	name := r.identifier()
	return Test{Kind: kind, Name: name}, name != ""
}

// attribute reads what follows [ in a test.
func (r *reader) attribute() (Test, bool) {
	r.space()
	test := Test{Kind: Exists, Name: text.Lower(r.identifier())}
	ok := test.Name != ""
	r.space()
	if kind := r.operator(); kind != 0 {
		test.Kind = kind
		r.space()
		value, valid := r.value()
		test.Value = value
		ok = ok && valid
		r.space()
	}
	return test, ok && r.skip("]")
}

// operator returns 0 if there is none.
func (r *reader) operator() int {
	switch {
	case r.skip("="):
		return Equals
	case r.skip("~="):
		return Word
	case r.skip("^="):
		return Prefix
	}
	return 0
}

func (r *reader) value() (string, bool) {
	if r.next(`"'`) {
		return r.quoted()
	}
	name := r.identifier()
	return name, name != ""
}

// quoted reads a string, whose quote is next.
func (r *reader) quoted() (string, bool) {
	s, rest, closed := strings.Cut(r.rest[1:], r.rest[:1])
	r.rest = rest
	return s, closed && !strings.Contains(s, "\n")
}

// pseudo reads what follows : in a test.
func (r *reader) pseudo() (Test, bool) {
	switch text.Lower(r.identifier()) {
	case "first-child":
		return Test{Kind: First}, true
	case "last-child":
		return Test{Kind: Final}, true
	case "empty":
		return Test{Kind: Empty}, true
	case "focus":
		return Test{Kind: Focus}, true
	case "hover":
		return Test{Kind: Hover}, true
	case "checked":
		return Test{Kind: Checked}, true
	case "nth-child":
		return r.enclosed(r.nth)
	case "not":
		// A :not within another one is refused here, not when the outer one has been read, so that a long text does not lead to a deep recursion.
		if !r.negated {
			return r.enclosed(r.simple)
		}
	}
	return Test{}, false
}

// enclosed reads a test in parentheses.
func (r *reader) enclosed(inner func() (Test, bool)) (Test, bool) {
	if !r.skip("(") {
		return Test{}, false
	}
	r.space()
	test, ok := inner()
	r.space()
	return test, ok && r.skip(")")
}

// simple reads the part of a :not.
func (r *reader) simple() (Test, bool) {
	r.negated = true
	part, ok := r.part()
	r.negated = false
	return Test{Kind: Not, Name: part.Type, Not: part.Tests}, ok
}

func (r *reader) nth() (Test, bool) {
	switch {
	case r.word("odd"):
		return Test{Kind: Nth, A: 2, B: 1}, true
	case r.word("even"):
		return Test{Kind: Nth, A: 2}, true
	}
	sign, _ := r.sign()
	number, ok := r.digits()
	if !r.word("n") {
		return Test{Kind: Nth, B: sign * number}, ok
	}
	if !ok {
		number = 1
	}
	offset, ok := r.offset()
	return Test{Kind: Nth, A: sign * number, B: offset}, ok
}

// offset reads what may follow a step, 0 if that is nothing.
func (r *reader) offset() (int, bool) {
	r.space()
	sign, signed := r.sign()
	if !signed {
		return 0, true
	}
	r.space()
	number, ok := r.digits()
	return sign * number, ok
}

// sign returns 1 if there is none.
func (r *reader) sign() (int, bool) {
	switch {
	case r.skip("+"):
		return 1, true
	case r.skip("-"):
		return -1, true
	}
	return 1, false
}

// digits leaves those that are too many behind, where nothing can follow that begins with a digit.
func (r *reader) digits() (int, bool) {
	number, count := 0, 0
	for count < maxDigits && r.next("0123456789") {
		number = 10*number + int(r.rest[0]-'0')
		r.rest = r.rest[1:]
		count++
	}
	return number, count > 0
}

// identifier returns "" if there is none.
func (r *reader) identifier() string {
	start := 0
	if r.next("-") {
		start = 1
	}
	if start == len(r.rest) || !beginsName(r.rest[start]) {
		return ""
	}
	return r.take(isInName)
}

// beginsName reports whether an identifier may begin with c, and isInName whether it may contain it.
func beginsName(c byte) bool {
	return c >= 'a' && c <= 'z' || c >= 'A' && c <= 'Z' || c == '_' || c >= 128
}

func isInName(c byte) bool { return beginsName(c) || isDigit(c) || c == '-' }

func isDigit(c byte) bool { return c >= '0' && c <= '9' }

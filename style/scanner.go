package style

import (
	"strings"

	"knapsack/api"
	"knapsack/selector"
	"knapsack/text"
)

// scanner reads a text from its beginning.
type scanner struct{ rest string } // what is not read yet

// read returns a scanner of the repaired text of s without its comments.
func read(s string) *scanner {
	raw := scanner{rest: text.Repair(s)}
	return &scanner{rest: raw.plain()}
}

// skip skips a mark, if it is next.
func (s *scanner) skip(mark string) bool {
	rest, ok := strings.CutPrefix(s.rest, mark)
	s.rest = rest
	return ok
}

// next reports whether one of some characters is next.
func (s *scanner) next(characters string) bool {
	return s.rest != "" && strings.IndexByte(characters, s.rest[0]) >= 0
}

// take reads so many bytes.
func (s *scanner) take(size int) string {
	taken := s.rest[:size]
	s.rest = s.rest[size:]
	return taken
}

// run reads the characters up to the first one for which in is false.
func (s *scanner) run(in func(c byte) bool) string {
	size := 0
	for size < len(s.rest) && in(s.rest[size]) {
		size++
	}
	return s.take(size)
}

// plain reads the whole text, and replaces each of its comments by a space.
func (s *scanner) plain() string {
	var b strings.Builder
	for s.rest != "" {
		switch {
		case s.skip("/*"):
			_, s.rest, _ = strings.Cut(s.rest, "*/")
			b.WriteByte(' ')
		case s.next(`"'`):
			b.WriteString(s.take(quoted(s.rest)))
		default:
			b.WriteString(s.take(1))
		}
	}
	return b.String()
}

// quoted returns the size of the string at the beginning of s.
func quoted(s string) int {
	end := strings.IndexByte(s[1:], s[0])
	if end < 0 {
		return len(s)
	}
	return end + 2
}

// until reads up to the first of some marks outside of strings and of parts that begin on the way, or to the end.
func (s *scanner) until(marks string) string {
	at, depth := 0, 0
	for at < len(s.rest) {
		c := s.rest[at]
		if depth == 0 && strings.IndexByte(marks, c) >= 0 {
			break
		}
		size := 1
		switch c {
		case '"', '\'':
			size = quoted(s.rest[at:])
		case '(', '[', '{':
			depth++
		case ')', ']', '}':
			// One that ends no part means nothing here, and must not make up for a part that begins later.
			depth = max(depth-1, 0)
		}
		at += size
	}
	return s.take(at)
}

// rules reads a sheet.
func (s *scanner) rules() []Rule {
	var list []Rule
	for len(list) < api.MaxRules {
		s.run(text.IsSpace)
		switch {
		case s.rest == "":
			return list
		case s.skip("}"), s.skip(";"):
		case s.next("@"):
			s.special()
		default:
			if r, ok := s.rule(); ok {
				r.Order = len(list)
				list = append(list, r)
			}
		}
	}
	return list
}

// special skips what begins with @.
func (s *scanner) special() {
	s.until(";{")
	if !s.skip(";") {
		s.block()
	}
}

// rule reads a rule, and reports whether it is valid.
func (s *scanner) rule() (Rule, bool) {
	prelude := s.until("{")
	if s.rest == "" {
		return Rule{}, false
	}
	block := s.block()
	selectors, e := selector.Parse(prelude)
	if e != api.OK {
		return Rule{}, false
	}
	return Rule{Selectors: selectors, Decls: block.declarations()}, true
}

// block reads a part in { }, if one is next, and returns a scanner of what is inside.
func (s *scanner) block() *scanner {
	s.skip("{")
	inside := s.until(")]}")
	s.take(min(1, len(s.rest)))
	return &scanner{rest: inside}
}

// declarations reads declarations to the end.
func (s *scanner) declarations() []Decl {
	var list []Decl
	for s.rest != "" {
		list = append(list, declared(s.until(";"))...)
		s.skip(";")
	}
	return list
}

// declared returns the declarations of longhands that a declaration stands for, none if it is not valid.
func declared(s string) []Decl {
	name, value, ok := strings.Cut(s, ":")
	if !ok {
		return nil
	}
	value, important := cutImportant(text.Trim(text.Lower(value)))
	list := expand(text.Lower(text.Trim(name)), value)
	for i := range list {
		list[i].Important = important
	}
	return list
}

// cutImportant returns a value without ! and important at its end, and whether they are there.
func cutImportant(s string) (string, bool) {
	value, ok := strings.CutSuffix(s, "important")
	if ok {
		value, ok = strings.CutSuffix(text.Trim(value), "!")
	}
	if !ok {
		return s, false
	}
	return text.Trim(value), true
}

package selector_test

import (
	"regexp"
	"strconv"
	"strings"
	"testing"

	"knapsack/api"
	"knapsack/selector"
)

// grammar returns a pattern of lists made of the table of the chapter, for valid UTF-8.
func grammar() *regexp.Regexp {
	const (
		space      = `[\t\n\f\r ]*`
		first      = `[A-Za-z_\x{80}-\x{10FFFF}]`
		identifier = `(?:-?` + first + `(?:` + first + `|[0-9-])*)`
		value      = `(?:` + identifier + `|"[^"\n]*"|'[^'\n]*')`
		digits     = `[0-9]{1,6}`
		step       = `[+-]?(?:` + digits + `)?[nN]`
	)
	nth := `(?:` + anyCase("odd") + `|` + anyCase("even") + `|[+-]?` + digits + `|` + step + `(?:` + space + `[+-]` + space + digits + `)?)`
	attribute := `\[` + space + identifier + space + `(?:(?:=|~=|\^=)` + space + value + space + `)?\]`
	pseudo := anyCase("nth-child") + `\(` + space + nth + space + `\)`
	for _, word := range []string{"first-child", "last-child", "empty", "focus", "hover", "checked"} {
		pseudo += `|` + anyCase(word)
	}
	plain := `(?:#` + identifier + `|\.` + identifier + `|` + attribute + `|:(?:` + pseudo + `))`
	simple := partOf(identifier, plain)
	test := `(?:` + plain + `|:` + anyCase("not") + `\(` + space + simple + space + `\))`
	part := partOf(identifier, test)
	one := part + `(?:(?:` + space + `[>+~]` + space + `|[\t\n\f\r ]+)` + part + `)*`
	return regexp.MustCompile(`\A` + space + one + space + `(?:,` + space + one + space + `)*\z`)
}

func partOf(identifier, test string) string {
	return `(?:(?:` + identifier + `|\*)` + test + `*|` + test + `+)`
}

// anyCase returns a pattern of a word in letters of either case, which are A to Z and a to z only.
func anyCase(word string) string {
	s := ""
	for _, r := range word {
		s += "[" + string(r) + strings.ToUpper(string(r)) + "]"
	}
	return strings.ReplaceAll(s, "[--]", "-")
}

// follows checks that Parse accepts what the grammar does, and P11.2 for it. It returns whether it is accepted.
func follows(t *testing.T, pattern *regexp.Regexp, s string) bool {
	t.Helper()
	got, e := selector.Parse(s)
	want := api.ErrSyntax
	if pattern.MatchString(s) {
		want = api.OK
	}
	if e != want {
		t.Fatalf("Parse(%q) returns the error %d, not %d", s, e, want)
	}
	if e != api.OK {
		return false
	}
	again, e := selector.Parse(selector.Format(got))
	if e != api.OK || show(again) != show(got) || selector.Format(again) != selector.Format(got) {
		t.Fatalf("Parse(%q), the Format of %q, is\n%s\nerror %d, not\n%s", selector.Format(got), s, show(again), e, show(got))
	}
	return true
}

// P11.1, P11.2: all short texts of the characters that mean something.
func TestShortTexts(t *testing.T) {
	pattern := grammar()
	accepted := 0
	const characters = "aN1-_ \n*#.,>+~[]=^'\":()é\x00"
	var extend func(s string, more int)
	extend = func(s string, more int) {
		if follows(t, pattern, s) {
			accepted++
		}
		if more > 0 {
			for _, r := range characters {
				extend(s+string(r), more-1)
			}
		}
	}
	extend("", 3)
	extend("a", 3)
	extend("[a", 3)
	extend(":nth-child(", 3)
	extend("a:not(", 3)
	if accepted < 1000 {
		t.Errorf("only %d texts are accepted", accepted)
	}
}

// P11.1, P11.2: random texts of words, most of which are no lists, and lists with a small change.
func TestRandomTexts(t *testing.T) {
	pattern := grammar()
	next := random()
	words := strings.Split("a|B|-x|--|-|_|1|12|123456|1234567|é|*|#|.|,|>|+|~| |  |\n|[|]|=|~=|^=|'|\"|'x y'|\"\"|:|:not(|:NOT( |:nth-child(|(|)|odd|EVEN|n|2n|-n|+|:first-child|:hover|:empty|[a]|[b=c]|.d|#e|\x00|\uFFFD", "|")
	accepted := 0
	for range 30000 {
		s := ""
		for range 1 + next(8) {
			s += words[next(len(words))]
		}
		if follows(t, pattern, s) {
			accepted++
		}
		s = speller{next}.list(randomList(next, 2, 2))
		at := next(len(s) + 1)
		// A cut through a character leaves bytes that are not valid UTF-8, of which the pattern knows nothing.
		changed := strings.ToValidUTF8(s[:at]+words[next(len(words))]+s[min(len(s), at+next(3)):], "\uFFFD")
		if follows(t, pattern, changed) {
			accepted++
		}
	}
	if accepted < 5000 {
		t.Errorf("only %d texts are accepted", accepted)
	}
}

// P11.1, P11.2: Parse reads the selectors of which a text was made, however it is spelled.
func TestSpellings(t *testing.T) {
	pattern := grammar()
	next := random()
	for range 5000 {
		want := randomList(next, 4, 2)
		s := speller{next}.list(want)
		got, e := selector.Parse(s)
		if e != api.OK || show(got) != show(want) || !pattern.MatchString(s) {
			t.Fatalf("Parse(%q) is\n%s\nerror %d, not\n%s", s, show(got), e, show(want))
		}
		formatted := selector.Format(want)
		again, e := selector.Parse(formatted)
		if e != api.OK || show(again) != show(want) {
			t.Fatalf("Parse(%q) is\n%s\nerror %d, not\n%s", formatted, show(again), e, show(want))
		}
		for i, x := range got {
			if sum := selector.Specificity(x); sum != weight(x) || !selector.Same(x, want[i]) {
				t.Fatalf("%q has the specificity %v, or is not the same as that from which it was made", s, sum)
			}
			if other := got[next(len(got))]; selector.Same(x, other) != (show(list(x)) == show(list(other))) {
				t.Fatalf("Same of two selectors of %q is wrong", s)
			}
		}
	}
}

// weight is the specificity of a selector, as far as Parse may return it: the numbers of words of the kinds in its canonical text.
func weight(s selector.Selector) [3]int {
	text := regexp.MustCompile(`"[^"]*"|'[^']*'`).ReplaceAllString(selector.Format([]selector.Selector{s}), "")
	text = strings.NewReplacer(":not(", "(", "*", "").Replace(text)
	nth := regexp.MustCompile(`:nth-child\([^)]*\)`)
	others := len(nth.FindAllString(text, -1))
	text = nth.ReplaceAllString(text, "")
	others += len(regexp.MustCompile(`[.:]|\[`).FindAllString(text, -1))
	types := regexp.MustCompile(`(?:^|[ (])[^ ().:#>+~\[\]]`).FindAllString(text, -1)
	return [3]int{strings.Count(text, "#"), others, len(types)}
}

// randomList returns at most so many selectors of the kinds that Parse returns, whose parts have at most so many tests.
func randomList(next func(below int) int, most, tests int) []selector.Selector {
	var selectors []selector.Selector
	for range 1 + next(most) {
		var s selector.Selector
		for i := range 1 + next(4) {
			join := 0
			if i > 0 {
				join = 1 + next(4)
			}
			s.Parts = append(s.Parts, part(join, pick(next, "", "", "a", "b", "-x", "é1", "odd"), randomTests(next, tests, true)...))
		}
		selectors = append(selectors, s)
	}
	return selectors
}

func pick(next func(below int) int, words ...string) string { return words[next(len(words))] }

// randomTests returns at most so many tests, with :not only if that is allowed.
func randomTests(next func(below int) int, most int, negated bool) []selector.Test {
	var tests []selector.Test
	for range next(most + 1) {
		kind := selector.Id + next(selector.Not)
		switch kind {
		case selector.Id, selector.Class:
			tests = append(tests, called(kind, pick(next, "a", "B", "_", "-Z", "x-1", "é")))
		case selector.Exists:
			tests = append(tests, called(kind, pick(next, "a", "href", "data-x")))
		case selector.Equals, selector.Word, selector.Prefix:
			tests = append(tests, compared(kind, pick(next, "a", "href"), pick(next, "", "a", "-B", "x y", `"`, "'", "]", ",", "é", "\t\r", ":not(", "1")))
		case selector.Nth:
			tests = append(tests, nth(next(5)-2, next(7)-3))
		case selector.Not:
			if negated {
				tests = append(tests, not(pick(next, "", "a", "b"), randomTests(next, 2, false)...))
			}
		default:
			tests = append(tests, selector.Test{Kind: kind})
		}
	}
	return tests
}

// speller writes selectors in one of the ways in which they may be written.
type speller struct{ next func(below int) int }

func (s speller) list(selectors []selector.Selector) string {
	var texts []string
	for _, x := range selectors {
		texts = append(texts, s.space()+s.one(x)+s.space())
	}
	return strings.Join(texts, ",")
}

func (s speller) space() string {
	return pick(s.next, "", "", " ", "\n", "\t\f", "\r  ")
}

func (s speller) one(x selector.Selector) string {
	text := ""
	for i, p := range x.Parts {
		if i > 0 {
			text += s.space() + [...]string{" ", ">", "+", "~"}[p.Join-1] + s.space()
		}
		text += s.part(p.Type, p.Tests)
	}
	return text
}

func (s speller) part(name string, tests []selector.Test) string {
	text := s.cased(name)
	if name == "" && (len(tests) == 0 || s.next(2) == 0) {
		text = "*"
	}
	for _, x := range tests {
		text += s.test(x)
	}
	return text
}

// cased returns a word with each of its letters in any case.
func (s speller) cased(word string) string {
	text := ""
	for _, r := range word {
		if r >= 'a' && r <= 'z' && s.next(3) == 0 {
			r += 'A' - 'a'
		}
		text += string(r)
	}
	return text
}

func (s speller) test(x selector.Test) string {
	switch x.Kind {
	case selector.Id:
		return "#" + x.Name
	case selector.Class:
		return "." + x.Name
	case selector.Exists:
		return "[" + s.space() + s.cased(x.Name) + s.space() + "]"
	case selector.Equals, selector.Word, selector.Prefix:
		operator := [...]string{"=", "~=", "^="}[x.Kind-selector.Equals]
		return "[" + s.space() + s.cased(x.Name) + s.space() + operator + s.space() + s.value(x.Value) + s.space() + "]"
	case selector.Nth:
		return ":" + s.cased("nth-child") + "(" + s.space() + s.nth(x.A, x.B) + s.space() + ")"
	case selector.Not:
		return ":" + s.cased("not") + "(" + s.space() + s.part(x.Name, x.Not) + s.space() + ")"
	}
	words := map[int]string{selector.First: "first-child", selector.Final: "last-child", selector.Empty: "empty", selector.Focus: "focus", selector.Hover: "hover", selector.Checked: "checked"}
	return ":" + s.cased(words[x.Kind])
}

func (s speller) value(v string) string {
	bare := v != "" && strings.Trim(v, "aBé-") == "" && !strings.HasPrefix(v, "--")
	switch {
	case bare && s.next(2) == 0:
		return v
	case strings.Contains(v, `"`) || !strings.Contains(v, "'") && s.next(2) == 0:
		return "'" + v + "'"
	}
	return `"` + v + `"`
}

func (s speller) nth(a, b int) string {
	switch {
	case a == 2 && b == 1 && s.next(2) == 0:
		return s.cased("odd")
	case a == 2 && b == 0 && s.next(2) == 0:
		return s.cased("even")
	case a == 0 && s.next(2) == 0:
		return s.signed(b, b > 0 && s.next(2) == 0, "")
	}
	step := s.signed(a, a > 0 && s.next(2) == 0, "") + s.cased("n")
	if (a == 1 || a == -1) && s.next(2) == 0 {
		step = strings.NewReplacer("0", "", "1", "").Replace(step)
	}
	if b == 0 && s.next(2) == 0 {
		return step
	}
	return step + s.space() + s.signed(b, b >= 0, s.space())
}

// signed writes a number, with a + if plus is true, and with a gap behind its sign.
func (s speller) signed(n int, plus bool, gap string) string {
	digits := strings.Repeat("0", s.next(3)) + strconv.Itoa(max(n, -n))
	switch {
	case n < 0:
		return "-" + gap + digits
	case plus:
		return "+" + gap + digits
	}
	return digits
}

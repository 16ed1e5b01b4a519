package selector_test

import (
	"fmt"
	"math"
	"slices"
	"strings"
	"testing"

	"knapsack/api"
	"knapsack/selector"
)

// reads checks what Parse returns for a text, and that P11.2 holds for it.
func reads(t *testing.T, s string, want ...selector.Selector) {
	t.Helper()
	got, e := selector.Parse(s)
	if e != api.OK || show(got) != show(want) {
		t.Errorf("Parse(%q) is\n%s\nerror %d, not\n%s", s, show(got), e, show(want))
		return
	}
	again, e := selector.Parse(selector.Format(got))
	if e != api.OK || show(again) != show(want) {
		t.Errorf("Parse(%q), the Format of %q, is\n%s\nerror %d, not\n%s", selector.Format(got), s, show(again), e, show(want))
	}
}

// refuses checks that Parse returns an error, and nothing else.
func refuses(t *testing.T, s string, want api.Errno) {
	t.Helper()
	if got, e := selector.Parse(s); e != want || len(got) != 0 {
		t.Errorf("Parse(%.200q) returns %d selectors and the error %d, not %d", s, len(got), e, want)
	}
}

// P11.1, P11.2: the examples of the chapter.
func TestExamples(t *testing.T) {
	const s = "ul > li.a:nth-child( 2n + 1 ), #b"
	reads(t, s,
		one(part(0, "ul"), part(selector.Child, "li", called(selector.Class, "a"), nth(2, 1))),
		one(part(0, "", called(selector.Id, "b"))),
	)
	list := parse(t, s)
	if got := selector.Format(list); got != "ul > li.a:nth-child(2n+1), #b" {
		t.Errorf("Format is %q", got)
	}
	if a, b := selector.Specificity(list[0]), selector.Specificity(list[1]); a != [3]int{0, 2, 2} || b != [3]int{1, 0, 0} {
		t.Errorf("the specificities are %v and %v", a, b)
	}
	reads(t, "a:not(.x[href^='/'])", one(part(0, "a", not("", called(selector.Class, "x"), compared(selector.Prefix, "href", "/")))))
	for _, s := range []string{"a >", "a,,b", "a:nth-child(n+)", ":not(:not(a))"} {
		refuses(t, s, api.ErrSyntax)
	}
	x := newSite(t, api.Salt{}, `<ul><li id=1>1<li id=2 class="x y">2<li id=3>3</ul>`)
	x.finds("li:nth-child(-n+2)", "1 2")
	x.finds(".x + li", "3")
	x = newSite(t, api.Salt{}, "<div><p id=1><p id=2 class=x></div><p id=3 class=x>")
	x.finds("div > p.x", "2")
	if got := selector.Specificity(parse(t, "div > p.x")[0]); got != [3]int{0, 1, 2} {
		t.Errorf("the specificity is %v", got)
	}
}

// P11.1: types, any type, and tests of each kind.
func TestParts(t *testing.T) {
	for s, want := range map[string]selector.Part{
		"a":                    part(0, "a"),
		"*":                    part(0, ""),
		"#a":                   part(0, "", called(selector.Id, "a")),
		"*.a":                  part(0, "", called(selector.Class, "a")),
		".a.a":                 part(0, "", called(selector.Class, "a"), called(selector.Class, "a")),
		"b.c#d":                part(0, "b", called(selector.Class, "c"), called(selector.Id, "d")),
		"[a]":                  part(0, "", called(selector.Exists, "a")),
		"b[ \t\n\f\ra\r]":      part(0, "b", called(selector.Exists, "a")),
		"[a=b]":                part(0, "", compared(selector.Equals, "a", "b")),
		"[a~=b]":               part(0, "", compared(selector.Word, "a", "b")),
		"[a^=b]":               part(0, "", compared(selector.Prefix, "a", "b")),
		"[ a ~= b ]":           part(0, "", compared(selector.Word, "a", "b")),
		`[a=""]`:               part(0, "", compared(selector.Equals, "a", "")),
		`[a^='']`:              part(0, "", compared(selector.Prefix, "a", "")),
		`[a="b]c,d"]`:          part(0, "", compared(selector.Equals, "a", "b]c,d")),
		`[a="'"]`:              part(0, "", compared(selector.Equals, "a", "'")),
		`[a='"']`:              part(0, "", compared(selector.Equals, "a", `"`)),
		`[a="\"]`:              part(0, "", compared(selector.Equals, "a", `\`)),
		"[a=\"\r\f\t\x00\"]":   part(0, "", compared(selector.Equals, "a", "\r\f\t\x00")),
		"[a='é€\U0001F600']":   part(0, "", compared(selector.Equals, "a", "é€\U0001F600")),
		":first-child":         part(0, "", selector.Test{Kind: selector.First}),
		":last-child":          part(0, "", selector.Test{Kind: selector.Final}),
		":empty":               part(0, "", selector.Test{Kind: selector.Empty}),
		":focus":               part(0, "", selector.Test{Kind: selector.Focus}),
		":hover":               part(0, "", selector.Test{Kind: selector.Hover}),
		":checked":             part(0, "", selector.Test{Kind: selector.Checked}),
		":nth-child(3)":        part(0, "", nth(0, 3)),
		":not(a)":              part(0, "", not("a")),
		":not(*)":              part(0, "", not("")),
		":not( *.b )":          part(0, "", not("", called(selector.Class, "b"))),
		"a:not(b#c:empty)":     part(0, "a", not("b", called(selector.Id, "c"), selector.Test{Kind: selector.Empty})),
		":not(a):not(\tb)":     part(0, "", not("a"), not("b")),
		"a:hover.b[c]":         part(0, "a", selector.Test{Kind: selector.Hover}, called(selector.Class, "b"), called(selector.Exists, "c")),
		":not([a=b]).c":        part(0, "", not("", compared(selector.Equals, "a", "b")), called(selector.Class, "c")),
		":not(:nth-child(2n))": part(0, "", not("", nth(2, 0))),
	} {
		reads(t, s, one(want))
		reads(t, "\r\n "+s+"\t\f", one(want))
		reads(t, s+","+s, one(want), one(want))
	}
}

// P11.1: what identifiers consist of.
func TestIdentifiers(t *testing.T) {
	for _, name := range []string{"a", "z", "_", "-a", "-_", "a-", "a--b", "a0", "a9_-", "é", "-é", "aé€", "\u0080", "\U0010FFFF", "x1y2", "not", "n", "odd"} {
		reads(t, name, one(part(0, name)))
		reads(t, "#"+name+"."+name, one(part(0, "", called(selector.Id, name), called(selector.Class, name))))
		reads(t, "["+name+"="+name+"]", one(part(0, "", compared(selector.Equals, name, name))))
		reads(t, "["+name+"]", one(part(0, "", called(selector.Exists, name))))
	}
	for _, name := range []string{"", "-", "--", "--a", "-1", "1", "0a", "-0", "-é-€\x00", "a\x00", "a|b", `\61`, "a!", "a$", "@", "a/b", "a\u007F"} {
		for _, s := range []string{name, "#" + name, "." + name, "[" + name + "]", "[a=" + name + "]", "a:not(" + name + ")"} {
			refuses(t, s, api.ErrSyntax)
		}
	}
}

// P11.1: what may be of either case, and is stored in lower case, and what is stored as it is.
func TestCases(t *testing.T) {
	reads(t, "DiV", one(part(0, "div")))
	reads(t, "#Ab.Cd", one(part(0, "", called(selector.Id, "Ab"), called(selector.Class, "Cd"))))
	reads(t, "[HrEf]", one(part(0, "", called(selector.Exists, "href"))))
	reads(t, "[HREF=Ab]", one(part(0, "", compared(selector.Equals, "href", "Ab"))))
	reads(t, "[HREF~='Ab']", one(part(0, "", compared(selector.Word, "href", "Ab"))))
	reads(t, "ÉÀ[ÉA]#ÉA", one(part(0, "ÉÀ", called(selector.Exists, "Éa"), called(selector.Id, "ÉA"))))
	reads(t, ":NOT(P.X)", one(part(0, "", not("p", called(selector.Class, "X")))))
	reads(t, ":Nth-Child(ODD)", one(part(0, "", nth(2, 1))))
	reads(t, ":NTH-CHILD(eVeN)", one(part(0, "", nth(2, 0))))
	reads(t, ":nth-child(-3N+1)", one(part(0, "", nth(-3, 1))))
	for word, kind := range map[string]int{":First-Child": selector.First, ":LAST-child": selector.Final, ":EMPTY": selector.Empty, ":fOcus": selector.Focus, ":hoveR": selector.Hover, ":CheckeD": selector.Checked} {
		reads(t, word, one(part(0, "", selector.Test{Kind: kind})))
	}
	// Only the letters A to Z are other cases of a to z.
	for _, s := range []string{":focu\u017F", ":chec\u212Aed", ":nth-child(\u017F)"} {
		refuses(t, s, api.ErrSyntax)
	}
}

// P11.1: the positions of :nth-child.
func TestNth(t *testing.T) {
	for s, want := range map[string][2]int{
		"odd": {2, 1}, "even": {2, 0}, "0": {0, 0}, "-0": {0, 0}, "+7": {0, 7}, "-7": {0, -7}, "000007": {0, 7}, "999999": {0, 999999}, "-999999": {0, -999999},
		"n": {1, 0}, "+n": {1, 0}, "-n": {-1, 0}, "2n": {2, 0}, "+2n": {2, 0}, "-2n": {-2, 0}, "0n": {0, 0}, "-0n": {0, 0}, "000010n": {10, 0}, "999999n": {999999, 0},
		"n+1": {1, 1}, "n-1": {1, -1}, "n +1": {1, 1}, "n+ 1": {1, 1}, "n \t\n\f\r+ \t\n\f\r1": {1, 1}, "n-0": {1, 0}, "-n- 000003": {-1, -3}, "0n+5": {0, 5}, "-999999n-999999": {-999999, -999999},
	} {
		for _, text := range []string{":nth-child(" + s + ")", ":nth-child(\t" + s + " \n)"} {
			reads(t, text, one(part(0, "", nth(want[0], want[1]))))
		}
	}
	for _, s := range []string{
		"", " ", "+", "-", "+ 1", "- n", "+ n", "--n", "+-1", "2 n", "n n", "n2", "nn", "n+", "n-", "n+-1", "n+ -1", "n--1", "n 1", "2n1", "n+n", "n+1n", "1+n", "1+1", "n+1+1",
		"1000000", "0000000", "1000000n", "n+1000000", "n-0000001", "n +1000000", "1.5", "1e1", "x", "oddx", "odd+1", "+odd", "-even", "evenn", "od d", "odd even", "2n,1", "n/1", "'n'", "n)", "(n)", "٣", "2n of a",
	} {
		refuses(t, ":nth-child("+s+")", api.ErrSyntax)
	}
}

// P11.1: how parts are joined, and selectors separated.
func TestJoins(t *testing.T) {
	for s, join := range map[string]int{
		" ": selector.Descendant, "\t\n\f\r ": selector.Descendant,
		">": selector.Child, " >": selector.Child, "> ": selector.Child, "\n>\t": selector.Child,
		"+": selector.Adjacent, "\f+\r": selector.Adjacent,
		"~": selector.Sibling, " ~  ": selector.Sibling,
	} {
		reads(t, "a"+s+"b", one(part(0, "a"), part(join, "b")))
		reads(t, "*"+s+"*", one(part(0, ""), part(join, "")))
		reads(t, " .a"+s+"#b"+s+"[c] ,\t:empty"+s+":not(a)", one(
			part(0, "", called(selector.Class, "a")), part(join, "", called(selector.Id, "b")), part(join, "", called(selector.Exists, "c")),
		), one(
			part(0, "", selector.Test{Kind: selector.Empty}), part(join, "", not("a")),
		))
	}
	reads(t, "a>b c+d~e", one(part(0, "a"), part(selector.Child, "b"), part(selector.Descendant, "c"), part(selector.Adjacent, "d"), part(selector.Sibling, "e")))
	reads(t, "a .b", one(part(0, "a"), part(selector.Descendant, "", called(selector.Class, "b"))))
	reads(t, "a,b , c\n,\nd", one(part(0, "a")), one(part(0, "b")), one(part(0, "c")), one(part(0, "d")))
}

// P11.1: texts that are no lists.
func TestRefused(t *testing.T) {
	for _, s := range []string{
		"", " ", ",", "a,", ",a", "a,,b", "a, ,b", "> a", "a >", "a > , b", "a + > b", "a>>b", "a ~ ~ b", "a +", "~", "a | b", "a || b", "a;b", "a{", "a}", "a/**/b",
		"**", "a*", "*a", ".a*", "..a", ".", "#", "# a", ". a", "a. b", ".#a", ".1", "a#", "a.b.", "[a]b", ":empty*", ":emptya",
		"[", "[]", "[ ]", "[a", "[a b]", "[a=]", "[a=b", "[a=b c]", "[=a]", "[~=a]", "[a~]", "[a~ =b]", "[a^ =b]", "[a==b]", "[a|=b]", "[a$=b]", "[a*=b]", "[a=1]", "[a='b]", `[a="b]`, `[a="b']`, `[a='b"]`, "[a='b\nc']", "[a=\"\n\"]",
		"[a='b'c]", "[a='b''c']", "['a']", "[a=b]]", "[[a]]", "[a][", "[*]", "[.a]", "[a=.b]",
		":", "::", "::first-child", ": empty", ":1", ":a", ":first-child()", ":first-child(1)", ":empty()", ":nth-child", ":nth-child (1)", ":nth-child(1", ":nth-last-child(1)", ":first", ":last", ":root", ":is(a)",
		":not", ":not(", ":not()", ":not( )", ":not (a)", ":not(a", ":not(a b)", ":not(a,b)", ":not(a>b)", ":not(> a)", ":not(a)b", ":not(a))", ":not(**)", ":not(:not(a))", ":not(a:not(b))", ":not(a:NOT(b))", ":not(.a:not(.b).c)", ":not(:)",
		"(", ")", "a)", "(a)", "'a'", `"a"`, "1", "1a", "-", "a -", "@a", "&a", "a\x00", "\x00", "\v", "a\vb", "a\u00A0>\u00A0\x01",
	} {
		refuses(t, s, api.ErrSyntax)
	}
}

// P11.1: a text that is not valid UTF-8 is refused, wherever the bytes are.
func TestInvalidTexts(t *testing.T) {
	for _, bad := range []string{"\xFF", "\x80", "\xC3", "\xE2\x82", "\xC0\xAF", "\xED\xA0\x80", "\xF4\x90\x80\x80"} {
		for _, s := range []string{"a", "a, ", ".a", "[a='", "[a=\"b", "é"} {
			for _, end := range []string{"", "b", "']", "\"]", ", a"} {
				refuses(t, s+bad+end, api.ErrSyntax)
			}
		}
	}
	// U+FFFD itself is valid.
	reads(t, ".\uFFFD", one(part(0, "", called(selector.Class, "\uFFFD"))))
}

// P11.1: the limits of a text, of a selector and of a list, and which error comes first.
func TestLimits(t *testing.T) {
	long := "a" + strings.Repeat("b", api.MaxSource-1)
	if got := parse(t, long); got[0].Parts[0].Type != long {
		t.Error("the longest type is not read")
	}
	refuses(t, long+"b", api.ErrLimit)
	refuses(t, long+" ", api.ErrLimit)
	refuses(t, strings.Repeat(",", api.MaxSource), api.ErrSyntax)
	refuses(t, strings.Repeat(",", api.MaxSource+1), api.ErrLimit)
	refuses(t, strings.Repeat("\xFF", api.MaxSource+1), api.ErrLimit)
	for _, joint := range []string{" ", ">", " + ", "~"} {
		most := "a" + strings.Repeat(joint+"a", api.MaxDepth-1)
		if got := parse(t, "b,"+most+",c"); len(got) != 3 || len(got[1].Parts) != api.MaxDepth {
			t.Error("the longest selector is not read")
		}
		refuses(t, most+joint+"a", api.ErrLimit)
		refuses(t, "b,"+most+joint+"a,c", api.ErrLimit)
		refuses(t, most+joint+"a,", api.ErrSyntax)
		refuses(t, most+joint+"a,\xFF", api.ErrSyntax)
	}
	if got := parse(t, "a"+strings.Repeat(",a", 999)); len(got) != 1000 {
		t.Error("the longest list is not read")
	}
	refuses(t, "a"+strings.Repeat(",a", 1000), api.ErrLimit)
	refuses(t, "a"+strings.Repeat(",a", 1000)+",", api.ErrSyntax)
	// Nothing bounds the tests of a part, and those of a :not.
	if got := parse(t, strings.Repeat(".a", 2000)+":not("+strings.Repeat(".b", 3000)+")"); len(got[0].Parts[0].Tests) != 2001 || len(got[0].Parts[0].Tests[2000].Not) != 3000 {
		t.Error("the tests are not read")
	}
}

// P11.1 with R1: texts that are nested as deep as can be.
func TestDeepTexts(t *testing.T) {
	for _, s := range []string{":not(", "a:not(", "[", "(", ":nth-child(", "'", "a>", "-"} {
		refuses(t, strings.Repeat(s, api.MaxSource/len(s)), api.ErrSyntax)
	}
}

// P11.1: the canonical text.
func TestFormat(t *testing.T) {
	for s, want := range map[string]string{
		"*":                                 "*",
		" *.a , b ":                         ".a, b",
		"A#b.C":                             "a#b.C",
		"a  b>c+d~e":                        "a b > c + d ~ e",
		"*>*":                               "* > *",
		"[ a ][ b = c ][d~='e'][f^=\"g\"]":  `[a][b="c"][d~="e"][f^="g"]`,
		`[a="'"][a='"'][a='']`:              `[a="'"][a='"'][a=""]`,
		":FIRST-child:last-child:empty":     ":first-child:last-child:empty",
		":focus:hover:checked":              ":focus:hover:checked",
		":not(*):not( A ):not(b.c:empty)":   ":not(*):not(a):not(b.c:empty)",
		":not(*.c):not([d])":                ":not(.c):not([d])",
		":nth-child(odd):nth-child(even)":   ":nth-child(2n+1):nth-child(2n)",
		":nth-child(5):nth-child(-5)":       ":nth-child(5):nth-child(-5)",
		":nth-child(0):nth-child(0n-0)":     ":nth-child(0):nth-child(0)",
		":nth-child(0n+3):nth-child(+n)":    ":nth-child(3):nth-child(n)",
		":nth-child(-n - 1):nth-child(-1n)": ":nth-child(-n-1):nth-child(-n)",
		":nth-child(01n+01)":                ":nth-child(n+1)",
		":nth-child(-3n + 12)":              ":nth-child(-3n+12)",
	} {
		if got := selector.Format(parse(t, s)); got != want {
			t.Errorf("Format(Parse(%q)) is %q, not %q", s, got, want)
		}
	}
}

// P11.1: Format of selectors that no text has.
func TestFormatOfOthers(t *testing.T) {
	for _, c := range []struct {
		want string
		list []selector.Selector
	}{
		{"", nil},
		{"", list(one())},
		{"a, ", list(one(part(0, "a")), one())},
		{"*", list(one(selector.Part{}))},
		// With the first part nothing is joined, and nothing is known of other combinators.
		{"a > b", list(one(part(selector.Sibling, "a"), part(selector.Child, "b")))},
		{"a.b", list(one(part(9, "a"), part(9, "", called(selector.Class, "b"))))},
		{":nth-child(-9223372036854775808n-9223372036854775808)", list(one(part(0, "", nth(math.MinInt, math.MinInt))))},
		{":nth-child(9223372036854775807n+9223372036854775807)", list(one(part(0, "", nth(math.MaxInt, math.MaxInt))))},
		{":not(a:not(:not(*)))", list(one(part(0, "", not("a", not("", not(""))))))},
		{`[a='"` + `'']`, list(one(part(0, "", compared(selector.Equals, "a", `"'`))))},
		// A test shows only the fields that its kind has.
		{"a#b", list(one(part(0, "a", selector.Test{Kind: selector.Id, Name: "b", Value: "c", A: 1, B: 2, Not: []selector.Test{nth(1, 2)}})))},
	} {
		if got := selector.Format(c.list); got != c.want {
			t.Errorf("Format of\n%s\nis %q, not %q", show(c.list), got, c.want)
		}
	}
	for _, kind := range []int{0, -1, 15, math.MinInt, math.MaxInt} {
		selector.Format(list(one(part(kind, "a", called(kind, "b")), part(kind, "", called(kind, "c")))))
	}
}

// P11.1: what counts for the specificity.
func TestSpecificity(t *testing.T) {
	for s, want := range map[string][3]int{
		"*":                    {0, 0, 0},
		"a":                    {0, 0, 1},
		"* > * a ~ *":          {0, 0, 1},
		"a b > c + d ~ e":      {0, 0, 5},
		"#a#a":                 {2, 0, 0},
		"#a b#c.d":             {2, 1, 1},
		"[a][b=c][d~=e][f^=g]": {0, 4, 0},
		".a:first-child:last-child:nth-child(2):empty:focus:hover:checked": {0, 8, 0},
		":not(*)":                {0, 0, 0},
		":not(a)":                {0, 0, 1},
		":not(a#b.c[d]:hover)":   {1, 3, 1},
		"x:not(.a):not(.a) #b":   {1, 2, 1},
		"p#a:not(q#b):not(#c) r": {3, 0, 3},
	} {
		if got := selector.Specificity(parse(t, s)[0]); got != want {
			t.Errorf("Specificity(%s) is %v, not %v", s, got, want)
		}
	}
	for _, c := range []struct {
		s    selector.Selector
		want [3]int
	}{
		{one(), [3]int{}},
		{one(selector.Part{}), [3]int{}},
		{one(part(7, "", not("a", not("b", called(selector.Id, "c"), not("", nth(0, 1)))))), [3]int{1, 1, 2}},
		// Tests of other kinds are others than Id and Not.
		{one(part(0, "", called(0, ""), called(-1, "a"), called(99, "a"))), [3]int{0, 3, 0}},
	} {
		if got := selector.Specificity(c.s); got != c.want {
			t.Errorf("Specificity of\n%s\nis %v, not %v", show(list(c.s)), got, c.want)
		}
	}
}

// P11.1: selectors with a different field are not the same, but nil and empty lists are.
func TestSame(t *testing.T) {
	test := selector.Test{Kind: 1, Name: "b", Value: "c", A: 2, B: 3, Not: []selector.Test{called(4, "d")}}
	with := func(change func(s *selector.Selector)) selector.Selector {
		copied := test
		copied.Not = slices.Clone(test.Not)
		s := one(part(0, "a"), part(1, "a", copied))
		change(&s)
		return s
	}
	base := with(func(*selector.Selector) {})
	if !selector.Same(base, with(func(*selector.Selector) {})) {
		t.Error("equal selectors are not the same")
	}
	for i, change := range []func(s *selector.Selector){
		func(s *selector.Selector) { s.Parts = nil },
		func(s *selector.Selector) { s.Parts = s.Parts[:1] },
		func(s *selector.Selector) { s.Parts = append(s.Parts, selector.Part{}) },
		func(s *selector.Selector) { s.Parts[0], s.Parts[1] = s.Parts[1], s.Parts[0] },
		func(s *selector.Selector) { s.Parts[0].Join = 1 },
		func(s *selector.Selector) { s.Parts[1].Join = 2 },
		func(s *selector.Selector) { s.Parts[1].Type = "" },
		func(s *selector.Selector) { s.Parts[1].Type = "A" },
		func(s *selector.Selector) { s.Parts[1].Tests = nil },
		func(s *selector.Selector) { s.Parts[1].Tests = append(s.Parts[1].Tests, selector.Test{}) },
		func(s *selector.Selector) { s.Parts[1].Tests[0].Kind = 2 },
		func(s *selector.Selector) { s.Parts[1].Tests[0].Name = "c" },
		func(s *selector.Selector) { s.Parts[1].Tests[0].Value = "b" },
		func(s *selector.Selector) { s.Parts[1].Tests[0].A = 3 },
		func(s *selector.Selector) { s.Parts[1].Tests[0].B = 2 },
		func(s *selector.Selector) { s.Parts[1].Tests[0].Not = nil },
		func(s *selector.Selector) { s.Parts[1].Tests[0].Not[0].Name = "" },
	} {
		if other := with(change); selector.Same(base, other) || selector.Same(other, base) {
			t.Errorf("after change %d, the selectors are the same", i)
		}
	}
	none := selector.Selector{Parts: []selector.Part{}}
	empty := one(selector.Part{Tests: []selector.Test{{Not: []selector.Test{}}}}, selector.Part{Tests: []selector.Test{}})
	if !selector.Same(selector.Selector{}, none) || !selector.Same(empty, one(part(0, "", selector.Test{}), part(0, ""))) {
		t.Error("empty lists are not the same as nil")
	}
}

// P11.1 with R3: no two slices of a result share memory.
func TestParseReturnsNewMemory(t *testing.T) {
	const s = "a.b.c.d > e:not(.f.g.h):not(.i), j ~ .k.l.m o"
	got := parse(t, s)
	want := show(got)
	got = append(got, one(part(9, "changed")))
	for i := range got[:2] {
		got[i].Parts = append(got[i].Parts, part(9, "changed"))
		for j := range got[i].Parts {
			tests := append(got[i].Parts[j].Tests, called(99, "changed"))
			for k := range tests {
				_ = append(tests[k].Not, called(99, "changed"))
			}
		}
		got[i].Parts = got[i].Parts[:len(got[i].Parts)-1]
	}
	if show(got[:2]) != want {
		t.Errorf("after appending to slices, the selectors are\n%s\nnot\n%s", show(got[:2]), want)
	}
	if again := show(parse(t, s)); again != want {
		t.Errorf("Parse(%q) is\n%s\nnow", s, again)
	}
}

// P11.2 where the text of Format is much longer than that which Parse has read.
func TestLongFormats(t *testing.T) {
	for _, s := range []string{
		"a" + strings.Repeat(">a", api.MaxDepth-1),
		"a" + strings.Repeat(",a", 999),
		strings.Repeat("[a=b]", 3000),
		strings.Repeat(":nth-child(odd)", 3000),
		fmt.Sprintf(":not(%s)", strings.Repeat("[a=b]", 3000)),
	} {
		got := parse(t, s)
		again, e := selector.Parse(selector.Format(got))
		if e != api.OK || show(again) != show(got) {
			t.Errorf("%.50q does not lead to the same selectors again: error %d", s, e)
		}
	}
}

package style_test

import (
	"fmt"
	"strconv"
	"strings"
	"testing"

	"knapsack/api"
	"knapsack/selector"
	"knapsack/style"
)

// show writes all that a sheet, or a part of one, contains. Nil and empty slices are the same.
func show(x any) string { return fmt.Sprintf("%+v", x) }

// short writes the rules of a sheet in one line each.
func short(s style.Sheet) string {
	var rules []string
	for _, r := range s.Rules {
		rules = append(rules, selector.Format(r.Selectors)+"{"+shortDecls(r.Decls)+"}")
	}
	return strings.Join(rules, " ")
}

func shortDecls(decls []style.Decl) string {
	var list []string
	for _, d := range decls {
		s := d.Name + ":" + style.FormatValue(d.Value)
		if d.Important {
			s += "!"
		}
		list = append(list, s)
	}
	return strings.Join(list, ";")
}

// reads checks the rules that a text has, that their Orders are their indices, and P12.2 for them.
func reads(t *testing.T, s, want string) {
	t.Helper()
	got := style.Parse(s, style.Author)
	if short(got) != want || got.Origin != style.Author {
		t.Errorf("Parse(%.300q) is\n%.300s\nwith the origin %d, not\n%.300s", s, short(got), got.Origin, want)
	}
	for i, r := range got.Rules {
		if r.Order != i {
			t.Errorf("in Parse(%.300q), the rule %d has the Order %d", s, i, r.Order)
		}
	}
	again := style.Parse(style.Format(got), style.Author)
	if show(again) != show(got) {
		t.Errorf("the sheet of %.300q is\n%.300s\nafter Format\n%.300s", s, show(got), show(again))
	}
}

// declares checks the declarations that a text has, also as the block of a rule, if the text cannot end that.
func declares(t *testing.T, s, want string) {
	t.Helper()
	if got := shortDecls(style.Decls(s)); got != want {
		t.Errorf("Decls(%.300q) is\n%s\nnot\n%s", s, got, want)
	}
	if !strings.ContainsAny(s, ")]}\"'") && !strings.Contains(s, "/*") {
		reads(t, "a{"+s, "a{"+want+"}")
	}
}

// P12.1: the examples of the chapter.
func TestExamples(t *testing.T) {
	want := []style.Decl{
		{Name: "margin-top", Value: style.Value{Kind: style.Pixels, Num: 1000}},
		{Name: "margin-right", Value: style.Value{Kind: style.Em, Num: 2000}},
		{Name: "margin-bottom", Value: style.Value{Kind: style.Pixels, Num: 1000}},
		{Name: "margin-left", Value: style.Value{Kind: style.Em, Num: 2000}},
		{Name: "color", Value: style.Value{Kind: style.Color, Word: "#aabbcc"}, Important: true},
		{Name: "top", Value: style.Value{Kind: style.Percent, Num: 50000}},
	}
	if got := style.Decls("margin: 1px 2em; COLOR : #Abc !Important; width: -1px; top: 50%"); show(got) != show(want) {
		t.Errorf("Decls is\n%+v\nnot\n%+v", got, want)
	}
	sheet := style.Sheet{Origin: 2, Rules: []style.Rule{
		{Selectors: []selector.Selector{{Parts: []selector.Part{{Type: "a"}}}}},
		{Selectors: []selector.Selector{{Parts: []selector.Part{{Type: "d"}}}}, Order: 1, Decls: []style.Decl{
			{Name: "top", Value: style.Value{Kind: style.Pixels, Num: 1500}},
			{Name: "color", Value: style.Value{Kind: style.Color, Word: "#ff0000"}},
		}},
	}}
	if got := style.Parse("a{} b,,c{color:red} @x y{z{}} d{top:1.5px;;color:red", 2); show(got) != show(sheet) {
		t.Errorf("Parse is\n%+v\nnot\n%+v", got, sheet)
	}
	if got := style.FormatValue(style.Value{Kind: style.Pixels, Num: -1250}); got != "-1.25px" {
		t.Errorf("FormatValue is %q", got)
	}
}

// P12.1: rules one after the other, and what lies between them.
func TestRules(t *testing.T) {
	for s, want := range map[string]string{
		"":                                 "",
		" \t\n\f\r":                        "",
		"a{}":                              "a{}",
		"a{top:0}":                         "a{top:0px}",
		"a{top:0}b{left:0}":                "a{top:0px} b{left:0px}",
		" a , B\n{\ttop : 0 }\f\r b { } ":  "a, b{top:0px} b{}",
		"}a{}}}b{};c{};;};":                "a{} b{} c{}",
		" ; } ; a{}":                       "a{}",
		"a{} a{}":                          "a{} a{}",
		"UL > li.A:Not( [x='y'] ){}":       "ul > li.A:not([x=\"y\"]){}",
		"a{top:0":                          "a{top:0px}",
		"a{":                               "a{}",
		"a{}b":                             "a{}",
		"a{}b{c{}":                         "a{} b{}",
		"a":                                "",
		"a;b{}":                            "",
		"a;b{}c{}":                         "c{}",
		"a}b{}c{}":                         "c{}",
		"a{};b{}":                          "a{} b{}",
		"{}":                               "",
		"{top:0}a{}":                       "a{}",
		"{{}}a{}":                          "a{}",
		"<!-- a{} b{} -->c{}d{}":           "b{} d{}",
		")a{}b{}":                          "b{}",
		"]{}b{}":                           "b{}",
		"a){}b{}":                          "b{}",
		"a(b{}){}c{}":                      "c{}",
		"a[b={}]{}c{}":                     "c{}",
		"a(;){}c{}":                        "c{}",
		"a({}c{}":                          "",
		"a[({}]){}c{}d{}":                  "c{} d{}",
		"a[({}){}c{}d{}":                   "",
		"a[({})]){}c{}d{}":                 "c{} d{}",
		"a{b{}}c{}":                        "a{} c{}",
		"a{b{top:0}left:0;left:1px}c{}":    "a{left:1px} c{}",
		"a{top:0]b{}":                      "a{top:0px} b{}",
		"a{top:0)b{}":                      "a{top:0px} b{}",
		"a{(]top:0;left:0)b{}":             "a{left:0px} b{}",
		"a{[top:0;left:0}b{}":              "a{}",
		"a{left:0;[top:0}b{}}c{}":          "a{left:0px} c{}",
		"a{([{}])}b{}":                     "a{} b{}",
		"a{([{)]}}b{}":                     "a{} b{}",
		"a{top:0}/b{}c{}":                  "a{top:0px} c{}",
		"a:nth-child( 2N + 1 ){}":          "a:nth-child(2n+1){}",
		"a:nosuch{top:0}b{}":               "b{}",
		"a,{top:0}b{}":                     "b{}",
		"a{top:0}\x00b{}c{}":               "a{top:0px} c{}",
		"a{}\u00a0{}b{}":                   "a{} \u00a0{} b{}",
		"a{}\vb{}c{}":                      "a{} c{}",
		"a\\{}b{}":                         "b{}",
		"a{TOP:0}":                         "a{top:0px}",
		"a{top:0;top:1px}":                 "a{top:0px;top:1px}",
		"a{top:0;bottom:0;left:x;left:1px": "a{top:0px;left:1px}",
	} {
		reads(t, s, want)
	}
}

// P12.1: what begins with @ is left out.
func TestSpecialRules(t *testing.T) {
	for s, want := range map[string]string{
		"@;a{}":                         "a{}",
		"@{}a{}":                        "a{}",
		"@":                             "",
		"@x":                            "",
		"@x a{}":                        "",
		"@x a{}b{}":                     "b{}",
		"@x;a{}":                        "a{}",
		"@import 'x';a{}":               "a{}",
		"@import \"a;b{}\";a{}":         "a{}",
		"@import url(a;b);a{}":          "a{}",
		"@x [;] (;) ;a{}":               "a{}",
		"@x ({}) ;a{}":                  "a{}",
		"@x ({}) {} a{}":                "a{}",
		"@media x { a{} b{} } c{}":      "c{}",
		"@media x { a{} b{} c{}":        "",
		"@x {;} a{}":                    "a{}",
		"@x {(} a{} ) b{} } c{}":        "b{} c{}",
		"@x { a{} ] c{}":                "c{}",
		"@x } a{} b{}":                  "b{}",
		"@x ) ; a{}":                    "a{}",
		"@x )( ; ) ; a{}":               "a{}",
		"@x ]{;} a{}":                   "a{}",
		"@x ( a{} b{}":                  "",
		"@x ' a{} b{}":                  "",
		"@x /* ; */ y ; a{}":            "a{}",
		"@@;a{}":                        "a{}",
		"@x;@y{}@z{};a{}":               "a{}",
		"b{}\n@x{}\nc{}":                "b{} c{}",
		"b @x{}c{}":                     "c{}",
		"b{top:0;@x{}left:0;left:1px;}": "b{top:0px;left:1px}",
		"b{@x;left:1px;}":               "b{left:1px}",
	} {
		reads(t, s, want)
	}
}

// P12.1: strings and comments.
func TestStringsAndComments(t *testing.T) {
	for s, want := range map[string]string{
		`a[b="{"]{}c{}`:                     `a[b="{"]{} c{}`,
		`a[b="}"]{}`:                        `a[b="}"]{}`,
		`a[b='"']{}c[d="'"]{}`:              `a[b='"']{} c[d="'"]{}`,
		`a[b="]('{/*;"]{top:0}`:             `a[b="]('{/*;"]{top:0px}`,
		`a[b="*/"]{}`:                       `a[b="*/"]{}`,
		`a[b="\"]{}c[d="e"]{}`:              `a[b="\"]{} c[d="e"]{}`,
		`a[b="c]{}d{}`:                      ``,
		`a{}b"c{}d{}`:                       `a{}`,
		`"a{}"b{}c{}`:                       `c{}`,
		`"{"{}c{}`:                          `c{}`,
		"a{'\n}'}c{}":                       `a{} c{}`,
		"a[b='\n']{}c{}":                    `c{}`,
		`a{top:0;"}";left:0;left:"1px"}c{}`: `a{top:0px;left:0px} c{}`,
		`a{top:0;'`:                         `a{top:0px}`,
		`a{top:0;left:0'}b{}`:               `a{top:0px}`,
		`a{"(";top:0}b{}`:                   `a{top:0px} b{}`,
		`a{('");top:0)';top:1px)left:0;left:0}b{}`: `a{left:0px} b{}`,
		"/**/":                             ``,
		"/* a{} */b{}":                     `b{}`,
		"/* a{}":                           ``,
		"a{}/*b{}":                         `a{}`,
		"a{/*}*/top:0}b{}":                 `a{top:0px} b{}`,
		"a{top:0/*}b{}":                    `a{top:0px}`,
		"a{top:/*;*/0}":                    `a{top:0px}`,
		"a{top/* */:0;left/**/:/**/1px}":   `a{top:0px;left:1px}`,
		"a{to/**/p:0;left:1/**/px}":        `a{}`,
		"a{margin:1px/**/2px}":             `a{margin-top:1px;margin-right:2px;margin-bottom:1px;margin-left:2px}`,
		"a{top:1px!/**/important}":         `a{top:1px!}`,
		"a{top:1px!impor/**/tant}":         `a{}`,
		"a/**/b{}":                         `a b{}`,
		"a/*,*/,/*,*/b{}":                  `a, b{}`,
		"a/* ' */{}b/* \" */{}":            `a{} b{}`,
		"a/*(*/{}b/*{*/{}":                 `a{} b{}`,
		"/*/a{}*/b{}":                      `b{}`,
		"/*/a{}":                           ``,
		"/***/a{}/* * / **/b{}":            `a{} b{}`,
		"/* /* */a{}*/b{}c{}":              `a{} c{}`,
		"/ * a{} * /b{}c{}":                `c{}`,
		"a{}//b{}\nc{}":                    `a{} c{}`,
		"/*'*/a[b='/*']{}/*'*/c{}":         `a[b="/*"]{} c{}`,
		"a{top:'/*';left:0}b{}/* '*/c{}":   `a{left:0px} b{} c{}`,
		"@x/*;*/y{}a{}":                    `a{}`,
		"a{}/":                             `a{}`,
		"/":                                ``,
		"//**/**/{}a{}":                    `a{}`,
		"a{/**//**/top:0;/*;*//*}*/}b{}":   `a{top:0px} b{}`,
		"/**/@x{}/**/;/**/}/**/a/**/{}":    `a{}`,
		"/*\n*/a\n/*\n*/\n,/**/ b\n{}":     `a, b{}`,
		"a[/**/b/**/=/**/'/**/'/**/]{}":    `a[b="/**/"]{}`,
		"a:not(/**/b/**/){} a:/**/empty{}": `a:not(b){}`,
	} {
		reads(t, s, want)
	}
}

// P12.1: the text is repaired, and cut if it is too long.
func TestRepairAndCut(t *testing.T) {
	reads(t, "a\xff{}b\xe2\x82{}", "a\uFFFD{} b\uFFFD\uFFFD{}")
	reads(t, "a[b='\xe2\x82\xac\xe2']{}", "a[b=\"€\uFFFD\"]{}")
	reads(t, "a{top:0;\xff:0;top\xff:0;top:1\xffpx;left:0}", "a{top:0px;left:0px}")
	if got := shortDecls(style.Decls("top:0;\xff;left:0;color:re\xe2d")); got != "top:0px;left:0px" {
		t.Errorf("Decls is %s", got)
	}

	fill := func(size int) string { return strings.Repeat(" ", api.MaxSource-size) }
	reads(t, fill(3)+"a{}", "a{}")
	reads(t, fill(2)+"a{}", "a{}")
	reads(t, fill(1)+"a{}", "")
	reads(t, fill(0)+"a{}", "")
	reads(t, "a{}"+fill(3)+"b{}", "a{}")
	reads(t, fill(10)+"a{top:10px}", "a{top:10px}")
	reads(t, fill(8)+"a{top:10px}", "a{}")
	reads(t, fill(6)+"a{top:0;left:0}", "a{}")
	reads(t, fill(7)+"a{top:0;left:0}", "a{top:0px}")
	// A character that is cut leaves bytes that are no character.
	reads(t, fill(6)+"a{}b€{}", "a{}")
	reads(t, fill(9)+"a{}[b='€']{}", "a{}")
	reads(t, fill(14)+"a{}[b='€']{}", "a{} [b=\"€\"]{}")
	// The cut is that of the text as it is, not of the repaired one, which may be longer.
	reads(t, "/*"+strings.Repeat("\xff", api.MaxSource-7)+"*/a{}b{}", "a{}")
	// Decls cuts nothing.
	if got := shortDecls(style.Decls(fill(0) + "top:0;left:0")); got != "top:0px;left:0px" {
		t.Errorf("Decls of a long text is %q", got)
	}
	// selector.Parse refuses a prelude that is longer than the greatest text, as this one is after the repair.
	reads(t, "a"+strings.Repeat("\xff", api.MaxSource/2)+"{}b{}", "b{}")
}

// P12.1: the first MaxRules valid rules count.
func TestMaxRules(t *testing.T) {
	var b strings.Builder
	var want []string
	for i := range api.MaxRules + 3 {
		name := "a" + strconv.Itoa(i)
		b.WriteString(name + "{}1{}@x;}")
		if i < api.MaxRules {
			want = append(want, name+"{}")
		}
	}
	reads(t, b.String(), strings.Join(want, " "))
	if got := len(style.Parse(b.String(), 0).Rules); got != api.MaxRules {
		t.Errorf("%d rules are read", got)
	}
}

// P12.1: a prelude that selector.Parse refuses because of a limit makes no rule either.
func TestLimitsOfSelectors(t *testing.T) {
	parts := "p" + strings.Repeat(" p", api.MaxDepth-1)
	reads(t, parts+"{}a{}", parts+"{} a{}")
	reads(t, parts+" p{}a{}", "a{}")
	list := "p" + strings.Repeat(", p", 999)
	reads(t, list+"{}a{}", list+"{} a{}")
	reads(t, list+",p{}a{}", "a{}")
}

// P12.1: any origin is kept.
func TestOrigins(t *testing.T) {
	for _, origin := range []int{style.Agent, style.Author, 0, -1, 99} {
		for _, s := range []string{"", "a{}"} {
			if got := style.Parse(s, origin).Origin; got != origin {
				t.Errorf("Parse(%q, %d) has the origin %d", s, origin, got)
			}
		}
	}
}

// P12.1: texts with much nesting, many strings and many comments.
func TestLongTexts(t *testing.T) {
	for _, piece := range []string{"{", "}", "(", ")", "[", "{(", "{}", "a{", "a{}", "'", "\"'", "/*", "/**/", "*/", "@", "@x;", "@{", ";", ":", "a:b;", "a{x:y", "1", "!", "\xff", "#", ",", "a,", "a ", ":not(", "margin:0;"} {
		s := strings.Repeat(piece, 100000)
		for _, text := range []string{s, "a{top:0;" + s, "a{top:" + s, "a{margin:" + s, s + "a{top:0}"} {
			sheet := style.Parse(text, 1)
			style.Decls(text)
			if len(sheet.Rules) > api.MaxRules {
				t.Errorf("%d rules of %.20q", len(sheet.Rules), text)
			}
		}
		style.ParseValue("width", s)
		style.ParseValue(s, "0")
	}
}

// P12.1: the sheet of the engine.
func TestDefault(t *testing.T) {
	got := style.Default()
	if got.Origin != style.Agent || len(got.Rules) != 16 {
		t.Fatalf("the default sheet has the origin %d and %d rules", got.Origin, len(got.Rules))
	}
	const block = "html, body, div, p, ul, ol, h1, h2, h3, h4, h5, h6, form, pre, section, article, header, footer, main, nav, address, blockquote, fieldset, hr, caption, dl"
	four := func(begin, end string, values ...string) string {
		var list []string
		for i, side := range []string{"top", "right", "bottom", "left"} {
			list = append(list, begin+side+end+":"+values[i])
		}
		return strings.Join(list, ";")
	}
	want := []string{
		block + "{display:block}",
		"head, title, style, script, meta, link, base{display:none}",
		"body{" + four("margin-", "", "8px", "8px", "8px", "8px") + "}",
		"p, ul, ol, pre, blockquote{" + four("margin-", "", "16px", "0px", "16px", "0px") + "}",
		"ul, ol{padding-left:40px}",
		"li{display:list-item}",
		"h1{font-size:32px;" + four("margin-", "", "21px", "0px", "21px", "0px") + "}",
		"h2{font-size:24px;" + four("margin-", "", "19px", "0px", "19px", "0px") + "}",
		"table{display:table}",
		"thead, tbody, tfoot{display:table-row-group}",
		"tr{display:table-row}",
		"td, th{display:table-cell;" + four("padding-", "", "1px", "1px", "1px", "1px") + "}",
		"pre{white-space:pre}",
		"button, input, textarea, img{display:inline-block}",
		"input, button{" + four("border-", "-width", "1px", "1px", "1px", "1px") + ";" + four("padding-", "", "1px", "4px", "1px", "4px") + "}",
		"a{color:#0000ff}",
	}
	if short(got) != strings.Join(want, " ") {
		t.Errorf("the default sheet is\n%s\nnot\n%s", short(got), strings.Join(want, "\n"))
	}
	for i, r := range got.Rules {
		if r.Order != i {
			t.Errorf("the rule %d has the Order %d", i, r.Order)
		}
	}
}

// P12.1 with R3: results are new memory, and no two slices of one share any.
func TestResultsAreNewMemory(t *testing.T) {
	const s = "a,b>c.d{margin:0;top:1px}e{flex:1}f{inherit:x;padding:inherit}"
	got := style.Parse(s, 2)
	want := show(got)
	for i := range got.Rules {
		_ = append(got.Rules[i].Decls, style.Decl{Name: "changed"})
		_ = append(got.Rules[i].Selectors, selector.Selector{Parts: []selector.Part{{Type: "changed"}}})
	}
	if show(got) != want {
		t.Errorf("after appending to its slices, the sheet is\n%s\nnot\n%s", show(got), want)
	}
	got.Rules[0].Decls[0].Name = "changed"
	got.Rules[1] = style.Rule{}
	if again := show(style.Parse(s, 2)); again != want {
		t.Errorf("another Parse returns\n%s\nnot\n%s", again, want)
	}
	standard := style.Default()
	want = show(standard)
	standard.Rules[0].Decls[0] = style.Decl{}
	standard.Rules[1].Selectors[0].Parts[0].Type = "changed"
	if again := show(style.Default()); again != want {
		t.Error("a change of one default sheet is a change of the next one")
	}
	names := style.Properties()
	names[0] = "changed"
	if style.Properties()[0] != "background" {
		t.Error("a change of one list of properties is a change of the next one")
	}
}

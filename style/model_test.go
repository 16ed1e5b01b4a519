package style_test

import (
	"math/big"
	"regexp"
	"slices"
	"strings"
	"testing"

	"knapsack/api"
	"knapsack/selector"
	"knapsack/style"
)

// The model follows the sentences of the chapter: what lies in a string or a part is masked, and then the text is searched. It is slow.

var (
	stringOrComment = regexp.MustCompile(`(?s)"[^"]*(?:"|\z)|'[^']*(?:'|\z)|/\*.*?(?:\*/|\z)`)
	modelString     = regexp.MustCompile(`"[^"]*(?:"|\z)|'[^']*(?:'|\z)`)
	innermostPart   = regexp.MustCompile(`[(\[{][^()\[\]{}]*[)\]}]`)
	opening         = regexp.MustCompile(`[(\[{]`)
	closing         = regexp.MustCompile(`[)\]}]`)
	modelSpace      = "\t\n\f\r "
)

// modelText repairs a text, and replaces its comments.
func modelText(s string) string {
	var b strings.Builder
	for _, r := range s {
		b.WriteRune(r)
	}
	return stringOrComment.ReplaceAllStringFunc(b.String(), func(x string) string {
		if strings.HasPrefix(x, "/*") {
			return " "
		}
		return x
	})
}

// masked returns a text of the same length.
func masked(s string) string { return strings.Repeat("x", len(s)) }

// maskStrings masks the strings of a text, and maskParts the parts of a text without strings that end in it.
func maskStrings(s string) string { return modelString.ReplaceAllStringFunc(s, masked) }

func maskParts(s string) string {
	for innermostPart.MatchString(s) {
		s = innermostPart.ReplaceAllStringFunc(s, masked)
	}
	return s
}

// outside returns the first index of one of some marks at which no part is open, the length of the text if there is none. The text has no strings.
func outside(s, marks string) int {
	for i := range len(s) {
		if strings.IndexByte(marks, s[i]) >= 0 && !opening.MatchString(maskParts(s[:i])) {
			return i
		}
	}
	return len(s)
}

// blockEnd returns the index behind a part that begins at the beginning of a text without strings.
func blockEnd(s string) int {
	for _, at := range closing.FindAllStringIndex(s, -1) {
		if !opening.MatchString(maskParts(s[:at[1]])) {
			return at[1]
		}
	}
	return len(s)
}

func modelParse(s string, origin int) style.Sheet {
	rest := modelText(s[:min(len(s), api.MaxSource)])
	mask := maskStrings(rest)
	sheet := style.Sheet{Origin: origin}
	cut := func(size int) string {
		piece := rest[:size]
		rest, mask = rest[size:], mask[size:]
		return piece
	}
	for rest != "" && len(sheet.Rules) < api.MaxRules {
		switch rest[0] {
		case '\t', '\n', '\f', '\r', ' ', '}', ';':
			cut(1)
		case '@':
			cut(outside(mask, ";{"))
			if strings.HasPrefix(rest, "{") {
				cut(blockEnd(mask))
			} else {
				cut(min(1, len(rest)))
			}
		default:
			prelude := cut(outside(mask, "{"))
			if rest == "" {
				continue
			}
			inside := cut(blockEnd(mask))[1:]
			if size := len(inside); closing.MatchString(maskParts(maskStrings(inside))) {
				inside = inside[:size-1]
			}
			if list, e := selector.Parse(prelude); e == api.OK {
				sheet.Rules = append(sheet.Rules, style.Rule{Selectors: list, Decls: modelDecls(inside), Order: len(sheet.Rules)})
			}
		}
	}
	return sheet
}

// modelDecls has no comments to replace.
func modelDecls(s string) []style.Decl {
	var list []style.Decl
	mask := maskStrings(s)
	for s != "" {
		size := outside(mask, ";")
		list = append(list, modelDeclaration(s[:size])...)
		s, mask = s[min(size+1, len(s)):], mask[min(size+1, len(s)):]
	}
	return list
}

var modelForm = regexp.MustCompile(`(?is)\A[\t\n\f\r ]*([a-z-]+)[\t\n\f\r ]*:(.*?)(![\t\n\f\r ]*important[\t\n\f\r ]*)?\z`)

func modelDeclaration(s string) []style.Decl {
	form := modelForm.FindStringSubmatch(s)
	if form == nil {
		return nil
	}
	name := modelLower(form[1])
	value := modelLower(strings.Trim(form[2], modelSpace))
	names, values := modelLonghands(name, value)
	var list []style.Decl
	for i, v := range values {
		list = append(list, style.Decl{Name: names[i], Value: v, Important: form[3] != ""})
	}
	return list
}

// modelLower changes only the letters A to Z.
func modelLower(s string) string {
	return strings.Map(func(r rune) rune {
		if strings.ContainsRune("ABCDEFGHIJKLMNOPQRSTUVWXYZ", r) {
			return r - 'A' + 'a'
		}
		return r
	}, s)
}

// modelLonghands returns the longhands of a property and their values, none if there is no such property or the value is not valid.
func modelLonghands(name, value string) ([]string, []style.Value) {
	names := []string{name}
	switch name {
	case "margin", "padding":
		names = []string{name + "-top", name + "-right", name + "-bottom", name + "-left"}
	case "border-width":
		names = []string{"border-top-width", "border-right-width", "border-bottom-width", "border-left-width"}
	case "flex":
		names = []string{"flex-grow", "flex-shrink", "flex-basis"}
	}
	parts := modelParts(name, value, len(names))
	if len(parts) != len(names) {
		return nil, nil
	}
	var values []style.Value
	for i, part := range parts {
		v, ok := modelValue(names[i], part)
		if !ok {
			return nil, nil
		}
		values = append(values, v)
	}
	return names, values
}

// modelParts returns the texts of the values of the longhands.
func modelParts(name, value string, count int) []string {
	if count == 1 || value == "inherit" || value == "initial" {
		return slices.Repeat([]string{value}, count)
	}
	parts := strings.FieldsFunc(value, func(r rune) bool { return strings.ContainsRune(modelSpace, r) })
	if slices.Contains(parts, "inherit") || slices.Contains(parts, "initial") || len(parts) == 0 {
		return nil
	}
	if name != "flex" {
		if len(parts) < 2 {
			parts = append(parts, parts[0])
		}
		if len(parts) < 3 {
			parts = append(parts, parts[0])
		}
		if len(parts) < 4 {
			parts = append(parts, parts[1])
		}
		return parts
	}
	switch {
	case value == "none":
		return []string{"0", "0", "auto"}
	case value == "auto":
		return []string{"1", "1", "auto"}
	case len(parts) == 1:
		return []string{parts[0], "1", "0px"}
	case len(parts) > 2:
		return parts
	}
	if _, ok := modelValue("flex-shrink", parts[1]); ok {
		return []string{parts[0], parts[1], "0px"}
	}
	return []string{parts[0], "1", parts[1]}
}

// modelTable is the table of the chapter.
const modelTable = `background | color, transparent
border-bottom-width, border-left-width, border-right-width, border-top-width | positive length
border-color, color | color
display | block, flex, inline, inline-block, list-item, none, table, table-cell, table-row, table-row-group
flex-basis, height, width | auto, positive length, positive percentage
flex-direction | column, row
flex-grow, flex-shrink | positive number
flex-wrap | nowrap, wrap
font-size | positive length, positive percentage
left, top, margin-bottom, margin-left, margin-right, margin-top | auto, length, percentage
line-height | normal, positive number, positive length, positive percentage
max-width | none, positive length, positive percentage
min-width, padding-bottom, padding-left, padding-right, padding-top | positive length, positive percentage
order | integer
overflow | hidden, scroll, visible
position | absolute, relative, static
text-align | center, left, right
vertical-align | bottom, middle, top
visibility | hidden, visible
white-space | normal, nowrap, pre
z-index | auto, integer`

var (
	modelNumber = regexp.MustCompile(`\A([+-]?[0-9]{1,7}(?:\.[0-9]+)?)(px|em|%|)\z`)
	modelHex    = regexp.MustCompile(`\A#([0-9a-f]{3}|[0-9a-f]{6})\z`)
	modelColors = "black 000000, blue 0000ff, gray 808080, green 008000, maroon 800000, navy 000080, orange ffa500, purple 800080, red ff0000, silver c0c0c0, white ffffff, yellow ffff00"
)

// modelValue is the value of a longhand, for a text in lower case without white space at its ends.
func modelValue(property, s string) (style.Value, bool) {
	for line := range strings.Lines(modelTable) {
		names, values, _ := strings.Cut(strings.TrimSpace(line), " | ")
		if !slices.Contains(strings.Split(names, ", "), property) {
			continue
		}
		if s == "inherit" || s == "initial" {
			return word(s), true
		}
		for _, form := range strings.Split(values, ", ") {
			if v, ok := modelAs(form, s); ok {
				return v, true
			}
		}
	}
	return style.Value{}, false
}

func modelAs(form, s string) (style.Value, bool) {
	form, positive := strings.CutPrefix(form, "positive ")
	if form == "color" {
		return modelColor(s)
	}
	if !slices.Contains([]string{"number", "integer", "length", "percentage"}, form) {
		return word(s), s == form
	}
	found := modelNumber.FindStringSubmatch(s)
	if found == nil {
		return style.Value{}, false
	}
	size, _ := new(big.Rat).SetString(strings.TrimPrefix(found[1], "+"))
	size.Mul(size, big.NewRat(1000, 1))
	n := int(new(big.Int).Quo(size.Num(), size.Denom()).Int64())
	if n > 1048576000 || n < -1048576000 || positive && n < 0 {
		return style.Value{}, false
	}
	switch form + " " + found[2] {
	case "number ":
		return num(style.Number, n), true
	case "integer ":
		return num(style.Number, n), n%1000 == 0
	case "length px":
		return num(style.Pixels, n), true
	case "length em":
		return num(style.Em, n), true
	case "length ":
		return num(style.Pixels, 0), n == 0
	case "percentage %":
		return num(style.Percent, n), true
	}
	return style.Value{}, false
}

func modelColor(s string) (style.Value, bool) {
	for _, color := range strings.Split(modelColors, ", ") {
		if name, digits, _ := strings.Cut(color, " "); s == name {
			return hex("#" + digits), true
		}
	}
	found := modelHex.FindStringSubmatch(s)
	if found == nil {
		return style.Value{}, false
	}
	digits := found[1]
	if len(digits) == 3 {
		digits = strings.Join([]string{digits[:1], digits[:1], digits[1:2], digits[1:2], digits[2:], digits[2:]}, "")
	}
	return hex("#" + digits), true
}

// follows checks that Parse and Decls of a text are those of the model, and P12.2. It returns the numbers of rules and declarations.
func follows(t *testing.T, s string) (int, int) {
	t.Helper()
	got := style.Parse(s, style.Author)
	if want := modelParse(s, style.Author); show(got) != show(want) {
		t.Fatalf("Parse(%q) is\n%s\nnot\n%s", s, short(got), short(want))
	}
	decls := style.Decls(s)
	if want := modelDecls(modelText(s)); !slices.Equal(decls, want) {
		t.Fatalf("Decls(%q) is\n%s\nnot\n%s", s, shortDecls(decls), shortDecls(want))
	}
	formatted := style.Format(got)
	again := style.Parse(formatted, style.Author)
	if show(again) != show(got) || style.Format(again) != formatted {
		t.Fatalf("Parse(%q), the Format of %q, is\n%s\nnot\n%s", formatted, s, show(again), show(got))
	}
	return len(got.Rules), len(decls)
}

// random returns a function that yields the same numbers in each run, each from 0 to below its argument.
func random() func(below int) int {
	state := uint64(1)
	return func(below int) int {
		state = state*6364136223846793005 + 1442695040888963407
		return int(state>>33) % below
	}
}

// P12.1, P12.2: all short texts of the characters that mean something, at several places.
func TestShortTexts(t *testing.T) {
	const characters = "a{}()[];:@\"'/* "
	rules := 0
	var extend func(s string, more int, ends []string)
	extend = func(s string, more int, ends []string) {
		for _, end := range ends {
			count, _ := follows(t, s+end)
			rules += count
		}
		if more > 0 {
			for _, r := range characters {
				extend(s+string(r), more-1, ends)
			}
		}
	}
	extend("", 3, []string{"", "a{}b{}"})
	extend("a{top:0;", 3, []string{";left:0;}b{}"})
	extend("@x ", 2, []string{"a{}b{};c{}"})
	extend("a[b='c'", 2, []string{"{}b{}c{}"})
	if rules < 5000 {
		t.Errorf("only %d rules are read", rules)
	}
}

// randomText returns a text of so many of some pieces.
func randomText(next func(below int) int, size int, pieces []string) string {
	var b strings.Builder
	for range size {
		b.WriteString(pieces[next(len(pieces))])
	}
	return b.String()
}

// P12.1, P12.2: random texts of pieces of sheets.
func TestRandomSheets(t *testing.T) {
	next := random()
	pieces := strings.Split("a|b c|.d, #e|[f='g']|[h=\"{'\"]|:not(i)|:nth-child(2n+1)|,|>|*|{|{|{|}|}|}|;|;|;|(|)|[|]|\"|'|/*|*/|/|@|@x|@y{z{}}|@w v;| |\n|\t|\xff|é|\x00|!|! Important|:|top:0|top:1px;|Color : Red|margin:1px 2em|margin: 0 auto !important;|flex:1 0 10%|padding: x|z-index:-3;|width:50%|left|left:|: 0|a{top:0}|a{top:0}|b{left:1px;right:0;flex:none}|{}|b{top:1em|c,,d{top:0}", "|")
	rules, decls := 0, 0
	for range 30000 {
		r, d := follows(t, randomText(next, 1+next(12), pieces))
		rules, decls = rules+r, decls+d
	}
	if rules < 4000 || decls < 5000 {
		t.Errorf("only %d rules and %d declarations are read", rules, decls)
	}
}

// P12.1: random declarations, most of which have the form of one.
func TestRandomDeclarations(t *testing.T) {
	next := random()
	names := append(style.Properties(), "MARGIN", "Z-Index", "bottom", "fle")
	for range 8 {
		names = append(names, "margin", "padding", "border-width", "flex", "Flex")
	}
	var words []string
	for line := range strings.Lines(modelTable) {
		_, values, _ := strings.Cut(strings.TrimSpace(line), " | ")
		words = append(words, strings.Split(values, ", ")...)
	}
	words = append(words, strings.Fields("inherit initial red BLACK #abc #ABCDEF #12 # 0 0 1 -1 2.5 -0.5 007 1. .5 1e3 1048576 1048577 9999999 12345678 0.0009 -0.0009 1.2345 0px 1px 2.5EM -3% 50% 1048576.0009px -1048576.5em 1pt px % + - ' ( é")...)
	valid := 0
	for range 100000 {
		s := names[next(len(names))] + randomText(next, next(2), []string{" ", "\n", "x"}) + ":"
		for range 1 + next(5)*next(2) {
			s += randomText(next, next(2), []string{" ", "\t", "/**/"}) + words[next(len(words))]
			if next(8) > 0 {
				s += " "
			}
		}
		s += randomText(next, next(2), []string{"!important", " ! IMPORTANT ", "!", "important"})
		got := style.Decls(s)
		if want := modelDecls(modelText(s)); !slices.Equal(got, want) {
			t.Fatalf("Decls(%q) is\n%s\nnot\n%s", s, shortDecls(got), shortDecls(want))
		}
		valid += min(1, len(got))
	}
	if valid < 4000 {
		t.Errorf("only %d declarations are valid", valid)
	}
}

// P12.1: each word of the chapter as the value of each longhand, and random numbers.
func TestRandomValues(t *testing.T) {
	next := random()
	digits := strings.Split("0123456789..+-", "")
	accepted := 0
	for range 60000 {
		property := style.Properties()[next(37)]
		s := randomText(next, 1+next(9), digits) + []string{"", "px", "em", "%"}[next(4)]
		got, e := style.ParseValue(property, s)
		want, ok := modelValue(property, s)
		if ok != (e == api.OK) || ok && got != want || !ok && (got != style.Value{} || e != api.ErrSyntax) {
			t.Fatalf("ParseValue(%q, %q) is %v, error %d, not %v", property, s, got, e, want)
		}
		if ok {
			accepted++
			if again, e := style.ParseValue(property, style.FormatValue(got)); e != api.OK || again != got {
				t.Fatalf("ParseValue(%q, %q) is %v, not %v", property, style.FormatValue(got), again, got)
			}
		}
	}
	if accepted < 1000 {
		t.Errorf("only %d values are accepted", accepted)
	}
}

// closed writes random pieces in which quotes and parts are closed, and which have no ; or { } outside of these.
func closed(next func(below int) int, depth int) string {
	s := ""
	for range next(4) {
		switch choice := next(8); {
		case choice < 4 || depth == 0:
			s += []string{"a", " ", ":", "top:0", ",", "#", "!", "*", "é", "@", "/*;{'*/", "1"}[next(12)]
		case choice == 4:
			s += []string{`"a;}{"`, `'('`, `"'"`, `'/*'`}[next(4)]
		case choice == 5:
			s += "(" + inside(next, depth-1) + ")"
		default:
			s += "[" + inside(next, depth-1) + "]"
		}
	}
	return s
}

// inside writes what may stand in a part.
func inside(next func(below int) int, depth int) string {
	s := closed(next, depth)
	for range next(3) {
		s += []string{";", "{" + closed(next, max(depth-1, 0)) + "}", ";top:0;"}[next(3)] + closed(next, depth)
	}
	return s
}

// P12.3: rules that are not valid have no influence on others, if what they open is closed.
func TestInvalidRules(t *testing.T) {
	next := random()
	before := []string{"", "a{top:0}", "b, c > d{margin:1px;color:red !important}", "@x{}", "e[f='{']{flex:1;;}\n"}
	after := []string{"", "g{left:0}", "h:not(.i) {padding:0", "@y; j{}", "k{}l{z-index:1}"}
	inserted := 0
	for range 60000 {
		prelude := closed(next, 3)
		if strings.HasPrefix(strings.Trim(modelText(prelude), modelSpace), "@") {
			continue
		}
		if _, e := selector.Parse(modelText(prelude)); e == api.OK {
			continue
		}
		inserted++
		rule := prelude + "{" + inside(next, 3) + "}"
		first, second := before[next(len(before))], after[next(len(after))]
		got, want := style.Parse(first+rule+second, 1), style.Parse(first+second, 1)
		if show(got) != show(want) {
			t.Fatalf("with the rule %q between %q and %q, the sheet is\n%s\nnot\n%s", rule, first, second, short(got), short(want))
		}
	}
	if inserted < 10000 {
		t.Errorf("only %d rules were not valid", inserted)
	}
}

// P12.3: so it is with declarations.
func TestInvalidDeclarations(t *testing.T) {
	next := random()
	before := []string{"", "top:0;", "margin:1px;color:red !important;", ";;"}
	after := []string{"", "left:0", " flex:1 ; ;", "padding:0;z-index:1;"}
	inserted := 0
	for range 60000 {
		decl := closed(next, 3)
		if next(3) == 0 {
			decl += "{" + inside(next, 3) + "}" + closed(next, 2)
		}
		if next(2) == 0 {
			decl = []string{"top", "margin", "flex", "nosuch"}[next(4)] + ":" + decl
		}
		if len(modelDeclaration(modelText(decl))) > 0 {
			continue
		}
		inserted++
		first, second := before[next(len(before))], after[next(len(after))]
		got, want := style.Decls(first+decl+";"+second), style.Decls(first+second)
		if !slices.Equal(got, want) {
			t.Fatalf("with %q between %q and %q, the declarations are\n%s\nnot\n%s", decl, first, second, shortDecls(got), shortDecls(want))
		}
		whole, without := style.Parse("a{"+first+decl+";"+second+"}b{}", 1), style.Parse("a{"+first+second+"}b{}", 1)
		if show(whole) != show(without) {
			t.Fatalf("with %q between %q and %q in a rule, the sheet is\n%s\nnot\n%s", decl, first, second, short(whole), short(without))
		}
	}
	if inserted < 10000 {
		t.Errorf("only %d declarations were not valid", inserted)
	}
}

// P12.2: random sheets, all of whose rules are valid, and their Format.
func TestFormatOfSheets(t *testing.T) {
	next := random()
	preludes := []string{"a", "B , c", "d>e~f+g h", "[i='\"']", `[j="'{}"]`, "[k^=l]:not(.m)", "#É:hover", "*", "n:nth-child( -n + 3 )", "[o='/*']", "[p=';@']"}
	values := []string{"top:0", "TOP:-1.25em", "color:#FFF", "background:transparent", "margin:1px auto", "flex:none", "flex:2.5 10%", "line-height:0", "line-height:0px", "line-height:1.333", "order:-3", "font-size:200%", "display:inherit", "border-width:initial", "nosuch:0", "max-width:1048576px", "left:0.0009px"}
	for range 3000 {
		s, count := "", next(5)
		for range count {
			s += preludes[next(len(preludes))] + "{"
			for range next(5) {
				s += values[next(len(values))] + []string{"", "!important"}[next(2)] + ";"
			}
			s += "}"
		}
		if rules, _ := follows(t, s); rules != count {
			t.Fatalf("%q has %d rules, not %d", s, rules, count)
		}
		origin := next(4)
		sheet := style.Parse(s, origin)
		if again := style.Parse(style.Format(sheet), origin); show(again) != show(sheet) {
			t.Fatalf("Parse of Format of %q is\n%s\nnot\n%s", s, show(again), show(sheet))
		}
	}
	standard := style.Default()
	if again := style.Parse(style.Format(standard), style.Agent); show(again) != show(standard) {
		t.Errorf("Parse of Format of the default sheet is\n%s", show(again))
	}
}

// P12.1: the text of a sheet.
func TestFormat(t *testing.T) {
	for s, want := range map[string]string{
		"":                                      "",
		"a{}":                                   "a { }\n",
		"a,b>C{top:0;Left:1.50PX!Important}d{}": "a, b > c { top: 0px; left: 1.5px !important; }\nd { }\n",
		"a{flex:1 !important}":                  "a { flex-grow: 1 !important; flex-shrink: 1 !important; flex-basis: 0px !important; }\n",
		"a[b='c'] { color : RED ; x : y }":      "a[b=\"c\"] { color: #ff0000; }\n",
	} {
		if got := style.Format(style.Parse(s, style.Author)); got != want {
			t.Errorf("Format of %q is %q, not %q", s, got, want)
		}
	}
	// Sheets that no text has.
	sheet := style.Sheet{Origin: 9, Rules: []style.Rule{{Order: 7}, {Decls: []style.Decl{{}, {Name: "X y", Value: style.Value{Kind: 9, Num: -1500}}, {Name: "z", Value: word("W;"), Important: true}}, Order: -1}}}
	if got, want := style.Format(sheet), " { }\n { : 0; X y: -1.5; z: W; !important; }\n"; got != want {
		t.Errorf("Format is %q, not %q", got, want)
	}
}

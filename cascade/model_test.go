package cascade_test

import (
	"math/big"
	"slices"
	"sort"
	"strings"
	"testing"

	"knapsack/api"
	"knapsack/cascade"
	"knapsack/selector"
	"knapsack/style"
	"knapsack/tree"
)

// The model follows the sentences of the chapter one by one: a declaration knows its whole weight, and a property is computed with numbers of any size. It is slow.

// modelTable has a line for each property: the form of its initial value, its forms (a capital letter for those that must not be negative) and its keywords.
const modelTable = `background: transparent, c, transparent
border-bottom-width: 0px, L
border-color: color, c
border-left-width: 0px, L
border-right-width: 0px, L
border-top-width: 0px, L
color: #000000, c, inherited
display: inline,, none block inline inline-block flex table table-row table-cell list-item table-row-group
flex-basis: auto, LP, auto
flex-direction: row,, row column
flex-grow: 0, N
flex-shrink: 1, N
flex-wrap: nowrap,, nowrap wrap
font-size: 16px, LP, inherited
height: auto, LP, auto
left: auto, lp, auto
line-height: normal, NLP, inherited normal
margin-bottom: 0px, lp, auto
margin-left: 0px, lp, auto
margin-right: 0px, lp, auto
margin-top: 0px, lp, auto
max-width: none, LP, none
min-width: 0px, LP
order: 0, i
overflow: visible,, visible hidden scroll
padding-bottom: 0px, LP
padding-left: 0px, LP
padding-right: 0px, LP
padding-top: 0px, LP
position: static,, static relative absolute
text-align: left,, inherited left center right
top: auto, lp, auto
vertical-align: top,, top middle bottom
visibility: visible,, inherited visible hidden
white-space: normal,, inherited normal nowrap pre
width: auto, LP, auto
z-index: auto, i, auto`

// modelProperty is a line of the table.
type modelProperty struct {
	name, initial, forms string
	inherited            bool
	keywords             []string
}

func modelProperties() []modelProperty {
	var list []modelProperty
	for _, line := range strings.Split(modelTable, "\n") {
		name, rest, _ := strings.Cut(line, ": ")
		parts := append(strings.SplitN(rest, ",", 3), "")
		keywords := strings.Fields(parts[2])
		inherited := len(keywords) > 0 && keywords[0] == "inherited"
		if inherited {
			keywords = keywords[1:]
		}
		list = append(list, modelProperty{name, parts[0], strings.TrimSpace(parts[1]), inherited, keywords})
	}
	return list
}

// isValue reports whether a value is one of a property.
func (p modelProperty) isValue(v style.Value) bool {
	letter := map[int]string{style.Number: "n", style.Pixels: "l", style.Em: "l", style.Percent: "p"}[v.Kind]
	switch v.Kind {
	case style.Keyword:
		return v.Num == 0 && (v.Word == "inherit" || v.Word == "initial" || slices.Contains(p.keywords, v.Word))
	case style.Color:
		return v.Num == 0 && strings.Contains(p.forms, "c") && len(v.Word) == 7 && v.Word[0] == '#' && strings.Trim(v.Word[1:], "0123456789abcdef") == ""
	case style.Number:
		if p.forms == "i" && v.Num%1000 == 0 {
			letter = "i"
		}
	case style.Pixels, style.Em, style.Percent:
	default:
		return false
	}
	if v.Word != "" || v.Num > 1048576000 || v.Num < -1048576000 {
		return false
	}
	return strings.Contains(p.forms, letter) || v.Num >= 0 && strings.Contains(p.forms, strings.ToUpper(letter))
}

// quotient returns a product divided by unit, cut off toward zero, and limited.
func quotient(a, b, unit, least, most int) int {
	n := new(big.Int).Mul(big.NewInt(int64(a)), big.NewInt(int64(b)))
	n.Quo(n, big.NewInt(int64(unit)))
	if low := big.NewInt(int64(least)); n.Cmp(low) < 0 {
		n = low
	}
	if high := big.NewInt(int64(most)); n.Cmp(high) > 0 {
		n = high
	}
	return int(n.Int64())
}

// modelApply is Apply.
func modelApply(decls []style.Decl, parent cascade.Style) cascade.Style {
	var s cascade.Style
	var later []modelProperty
	set := func(p modelProperty) {
		v := style.Value{}
		for _, d := range decls {
			if d.Name == p.name && p.isValue(d.Value) {
				v = d.Value
			}
		}
		for _, name := range fields[p.name] {
			if v == word("inherit") || v.Kind == 0 && p.inherited {
				field(&s, name).Set(field(&parent, name))
			} else {
				modelSet(&s, p, name, v, parent)
			}
		}
	}
	for _, p := range modelProperties() {
		if p.name == "font-size" || p.name == "color" {
			set(p)
		} else {
			later = append(later, p)
		}
	}
	for _, p := range later {
		set(p)
	}
	if s.Position == 2 && slices.Contains([]int{2, 3, 6, 7, 9}, s.Display) {
		s.Display = 1
	}
	return s
}

// modelSet sets a field to what a value means: the initial one, if there is none.
func modelSet(s *cascade.Style, p modelProperty, name string, v style.Value, parent cascade.Style) {
	if v.Kind == 0 || v == word("initial") {
		if p.initial == "color" {
			s.BorderColor = s.Color
			return
		}
		v, _ = style.ParseValue(p.name, p.initial)
	}
	font := s.FontSize
	if name == "FontSize" {
		font = parent.FontSize
	}
	switch at := field(s, name).Addr().Interface().(type) {
	case *string:
		*at = strings.TrimPrefix(v.Word, "transparent")
	case *bool:
		*at = v.Word == "wrap" || name == "ZAuto" && v.Word == "auto"
	case *cascade.Length:
		*at = modelLength(v, font)
	case *int:
		*at = modelNumber(p, v, font)
	}
}

func modelLength(v style.Value, font int) cascade.Length {
	switch v.Kind {
	case style.Pixels:
		return px(quotient(v.Num, 1, 1000, -1048576, 1048576))
	case style.Em:
		return px(quotient(v.Num, font, 1000, -1048576, 1048576))
	case style.Percent:
		return percent(quotient(v.Num, 1, 10, -10000000, 10000000))
	}
	return auto
}

func modelNumber(p modelProperty, v style.Value, font int) int {
	switch p.name {
	case "font-size", "line-height":
		least, most := 1, 1000
		if p.name == "line-height" {
			least, most = 0, 10000
		}
		switch v.Kind {
		case style.Pixels:
			return quotient(v.Num, 1, 1000, least, most)
		case style.Percent:
			return quotient(font, v.Num, 100000, least, most)
		case style.Keyword: // normal
			return quotient(font, 5, 4, least, most)
		}
		return quotient(font, v.Num, 1000, least, most)
	case "order", "z-index":
		return v.Num / 1000
	case "flex-grow", "flex-shrink":
		return v.Num
	}
	if v.Kind == style.Keyword {
		return slices.Index(p.keywords, v.Word)
	}
	return modelLength(v, font).Value
}

// modelDecl is a declaration with its weight.
type modelDecl struct {
	style.Decl
	weight []int
}

// modelMatching is Matching.
func modelMatching(t *tree.Tree, h api.Handle, sheets []style.Sheet, state selector.State) []style.Decl {
	var list []modelDecl
	add := func(origin int, specificity [3]int, sheet, rule int, decls []style.Decl) {
		for i, d := range decls {
			rank := slices.Index([]string{"agent", "author", "author!", "agent!"}, map[bool]string{true: "agent", false: "author"}[origin == 1]+map[bool]string{true: "!"}[d.Important])
			list = append(list, modelDecl{d, []int{rank, specificity[0], specificity[1], specificity[2], sheet, rule, i}})
		}
	}
	for i, sheet := range sheets {
		for k, rule := range sheet.Rules {
			var matched [][]int
			for _, s := range rule.Selectors {
				if n := selector.Specificity(s); selector.Match(t, h, s, state) {
					matched = append(matched, n[:])
				}
			}
			if len(matched) > 0 {
				add(sheet.Origin, [3]int(slices.MaxFunc(matched, slices.Compare[[]int])), i, k, rule.Decls)
			}
		}
	}
	value, _ := t.Attr(h, "style")
	if n, _ := t.Node(h); n.Kind == tree.Element {
		add(2, [3]int{1 << 60}, 0, 0, style.Decls(value))
	}
	sort.Slice(list, func(i, j int) bool { return slices.Compare(list[i].weight, list[j].weight) < 0 })
	var decls []style.Decl
	for _, d := range list {
		decls = append(decls, d.Decl)
	}
	return decls
}

// modelStyle is the style of an element that the document contains, and modelCompute is Compute.
func modelStyle(t *tree.Tree, h api.Handle, sheets []style.Sheet, state selector.State) cascade.Style {
	parent := cascade.Initial()
	if n, _ := t.Node(h); n.Parent != t.Root {
		parent = modelStyle(t, n.Parent, sheets, state)
	}
	return modelApply(modelMatching(t, h, sheets, state), parent)
}

func modelCompute(t *tree.Tree, sheets []style.Sheet, state selector.State) []cascade.Entry {
	var list []cascade.Entry
	for h := range t.Walk(t.Root) {
		if n, _ := t.Node(h); n.Kind == tree.Element {
			list = append(list, cascade.Entry{Node: h, Style: modelStyle(t, h, sheets, state)})
		}
	}
	return list
}

// P13.1: random trees, each with several salts, and random sheets.
func TestFollowsModel(t *testing.T) {
	next := random()
	several := 0
	for run := range 1500 {
		seed, standard := next(1<<20), next(3) == 0
		var first cascade.Styles
		for i, salt := range salts {
			x := randomTree(seeded(seed), salt)
			sheets, state := randomSheets(seeded(seed), standard), randomState(seeded(seed), x.nodes)
			for k, h := range append(x.nodes, 0, -1, 1<<40) {
				got, want := cascade.Matching(x.t, h, sheets, state), modelMatching(x.t, h, sheets, state)
				if !slices.Equal(got, want) {
					t.Fatalf("run %d, salt %v: Matching of the node %d is\n%v, not\n%v\n%s", run, salt, k, got, want, show(sheets))
				}
				if len(got) > 8 {
					several++
				}
			}
			got, want := cascade.Compute(x.t, sheets, state), modelCompute(x.t, sheets, state)
			if !slices.Equal(got.List, want) {
				t.Fatalf("run %d, salt %v: Compute is\n%v, not\n%v\n%s", run, salt, got.List, want, show(sheets))
			}
			for _, h := range append(x.nodes, 0, -1) {
				place := slices.IndexFunc(want, func(e cascade.Entry) bool { return e.Node == h })
				if s, ok := got.Get(h); ok != (place >= 0) || ok && s != want[place].Style || !ok && s != (cascade.Style{}) {
					t.Fatalf("run %d, salt %v: Get(%d) is %v, %v", run, salt, h, s, ok)
				}
			}
			if i == 0 {
				first = got
			} else if !slices.EqualFunc(first.List, got.List, func(a, b cascade.Entry) bool { return a.Style == b.Style }) {
				t.Fatalf("run %d: the styles depend on the salt %v", run, salt)
			}
		}
	}
	if several < 3000 {
		t.Errorf("only %d elements had several declarations", several)
	}
}

// P13.1: random declarations, also ones that style.Parse does not return, and random parents.
func TestApplyFollowsModel(t *testing.T) {
	next := random()
	for run := range 15000 {
		parent := randomStyle(next)
		var decls []style.Decl
		for range next(30) {
			decls = append(decls, randomDecl(next))
		}
		if got, want := cascade.Apply(decls, parent), modelApply(decls, parent); got != want {
			t.Fatalf("run %d: %v in\n%+v is\n%+v, not\n%+v", run, decls, parent, got, want)
		}
	}
}

// P13.1: the table of the model has the properties of package style, and their values.
func TestModelTable(t *testing.T) {
	next := random()
	for i, p := range modelProperties() {
		if p.name != style.Properties()[i] || len(fields[p.name]) == 0 {
			t.Errorf("%s is not %s", p.name, style.Properties()[i])
		}
		for _, s := range []string{"0", "7", "-7", "1.5", "0px", "2px", "-2em", "3%", "-3%", "red", "#abc", "inherit", "initial", pick(next, allWords...), pick(next, allWords...)} {
			if v, e := style.ParseValue(p.name, s); e == api.OK && !p.isValue(v) {
				t.Errorf("%s refuses %q", p.name, s)
			}
		}
	}
}

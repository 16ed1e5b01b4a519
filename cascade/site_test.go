package cascade_test

import (
	"math"
	"strings"
	"testing"

	"knapsack/api"
	"knapsack/cascade"
	"knapsack/selector"
	"knapsack/style"
	"knapsack/tree"
	"knapsack/treebuild"
)

// random returns a function whose results are those of a fixed sequence, each reduced to less than its argument.
func random() func(below int) int { return seeded(0) }

// seeded is random, but begins elsewhere.
func seeded(seed int) func(below int) int {
	state := uint64(seed)*2862933555777941757 + 3037000493
	return func(below int) int {
		state = state*6364136223846793005 + 1442695040888963407
		return int(state>>33) % below
	}
}

func pick[T any](next func(below int) int, list ...T) T { return list[next(len(list))] }

// salts are those with which nothing but handles may differ.
var salts = []api.Salt{{}, {Base: 10, Stride: 3}, {Base: 1000, Stride: 1000}, {Base: -7, Stride: 77}}

// allWords are keywords of all properties, and words that are none.
var allWords = strings.Fields("none block inline inline-block flex table table-row table-cell list-item table-row-group static relative absolute left center right normal nowrap pre top middle bottom row column visible hidden scroll wrap auto transparent inherit initial red unset grid Block")

// randomValue returns the text of a value, which often is valid for a property.
func randomValue(next func(below int) int, property string) string {
	for range 3 {
		s := pick(next, "0", "1", "2", "1.5", "-1", "-2", "3px", "0.7px", "-3.9px", "1em", "2.5em", "-0.5em", "1048576em", "50%", "12.5%", "-8%", "1048576%", "red", "#abc", "#123456", "navy", "10px", "inherit", "initial", pick(next, allWords...))
		if _, e := style.ParseValue(property, s); e == api.OK || next(20) == 0 {
			return s
		}
	}
	return "inherit"
}

// randomDeclarations returns a text of declarations. With few properties they meet more often.
func randomDeclarations(next func(below int) int) string {
	properties := []string{"color", "font-size", "left", "display", "z-index"}
	if next(3) == 0 {
		properties = append(style.Properties(), "colour", "bottom")
	}
	var b strings.Builder
	for range next(4) {
		property := pick(next, properties...)
		b.WriteString(property + ":" + randomValue(next, property) + pick(next, ";", ";", " !important;"))
	}
	b.WriteString(pick(next, "", "", "", "margin: 1px 2em", "padding: inherit", "flex: 2 1em", "border-width: 1px 2em !important"))
	return b.String()
}

// randomSheets returns sheets of all origins, the engine's own sheet among them or not.
func randomSheets(next func(below int) int, standard bool) []style.Sheet {
	var sheets []style.Sheet
	if standard {
		sheets = append(sheets, style.Default())
	}
	for range next(4) {
		var b strings.Builder
		for range next(6) {
			for i := range 1 + next(3) {
				b.WriteString(strings.Repeat(",", min(i, 1)) + randomSelector(next))
			}
			b.WriteString("{" + randomDeclarations(next) + "}")
		}
		sheets = append(sheets, style.Parse(b.String(), pick(next, style.Author, style.Author, style.Agent, style.Agent, 0, 3, -1)))
	}
	return sheets
}

func randomSelector(next func(below int) int) string {
	s := ""
	for i := range 1 + next(3) {
		if i > 0 {
			s += pick(next, " ", ">", "+", "~")
		}
		s += pick(next, "", "*", "a", "b", "ul", "p") + pick(next, "", ".x", ".y", "#i", "#j", "[class]", "[style]", ":nth-child(odd)", ":not(b)", ":not(#i.x)", ":hover", ":focus", ":checked", ":first-child", ".x.y")
		if s == "" || strings.HasSuffix(s, " ") || strings.ContainsAny(s[len(s)-1:], ">+~") {
			s += "*"
		}
	}
	return s
}

// site is a tree and its nodes in the order in which they were made.
type site struct {
	t     *tree.Tree
	nodes []api.Handle
}

// randomTree returns a tree with detached ones beside it.
func randomTree(next func(below int) int, salt api.Salt) site {
	x := site{t: tree.New(salt)}
	x.nodes = []api.Handle{x.t.Root}
	for range 2 + next(12) {
		kind := tree.Element
		if next(6) == 0 {
			kind = tree.Text + next(2)
		}
		attrs := []api.Attr{{Name: "id", Value: pick(next, "i", "j")}, {Name: "class", Value: pick(next, "x", "y", "y x", "X")}}
		attrs = attrs[next(3):]
		if next(3) == 0 {
			attrs = append(attrs, api.Attr{Name: "style", Value: randomDeclarations(next)})
		}
		h, _ := x.t.Make(kind, pick(next, "a", "b", "ul", "p"), "x", attrs)
		x.nodes = append(x.nodes, h)
		// Nodes that may not be there stay detached.
		x.t.Insert(x.nodes[max(0, len(x.nodes)-2-next(4))], h, 0)
	}
	return x
}

func randomState(next func(below int) int, nodes []api.Handle) selector.State {
	state := selector.State{Focus: pick(next, nodes...), Hover: pick(next, nodes...)}
	for range next(3) {
		state.Checked = append(state.Checked, pick(next, nodes...))
	}
	return state
}

// randomDecl returns a declaration that may be one that no text has.
func randomDecl(next func(below int) int) style.Decl {
	property := pick(next, style.Properties()...)
	if v, e := style.ParseValue(property, randomValue(next, property)); e == api.OK && next(4) > 0 {
		return decl(property, v)
	}
	v := style.Value{Kind: next(9) - 1}
	switch {
	case v.Kind == style.Keyword:
		v.Word = pick(next, allWords...)
	case v.Kind == style.Color:
		v.Word = pick(next, "#000000", "#abcdef", "#ABCDEF", "#abc", "abcdef", "red", "", "#abcdeg", "inherit")
	default:
		v.Num = pick(next, 0, 1, -1, 999, 1000, -1000, 1500, 2000, 1048576000, -1048576000, 1048576001, -1048576001, 1<<31, math.MaxInt, math.MinInt, next(100000))
	}
	if next(12) == 0 {
		v.Num++
	}
	if next(12) == 0 {
		v.Word += pick(next, " ", "x", "none", "inherit")
	}
	return style.Decl{Name: pick(next, property, property, property, property, "COLOR", "margin", "", property+" "), Value: v, Important: next(2) == 0}
}

// randomStyle returns the style of a parent, which may be one that nothing computes.
func randomStyle(next func(below int) int) cascade.Style {
	s := pick(next, odd(), cascade.Initial(), cascade.Style{})
	s.FontSize = pick(next, 0, 1, 7, 16, 1000, 1001, -1, -16, 1<<31, 1<<40, math.MaxInt, math.MinInt, next(100))
	s.Display, s.Position = next(12)-1, next(5)-1
	s.LineHeight = pick(next, 20, 0, -1, 10001)
	s.Z, s.ZAuto = next(3), next(2) == 0
	return s
}

// show returns the text of sheets.
func show(sheets []style.Sheet) string {
	var b strings.Builder
	for _, sheet := range sheets {
		b.WriteString("origin " + string(rune('0'+sheet.Origin)) + "\n" + style.Format(sheet))
	}
	return b.String()
}

// build returns the tree of a document, and a function that returns its elements by their attributes id.
func build(t *testing.T, salt api.Salt, markup string) (*tree.Tree, func(id string) api.Handle) {
	x := treebuild.Build(markup, salt)
	return x, func(id string) api.Handle {
		t.Helper()
		for h := range x.Nodes.All() {
			if value, ok := x.Attr(h, "id"); ok && value == id {
				return h
			}
		}
		t.Fatalf("there is no element %q", id)
		return 0
	}
}

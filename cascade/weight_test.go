package cascade_test

import (
	"fmt"
	"slices"
	"strings"
	"testing"

	"knapsack/api"
	"knapsack/cascade"
	"knapsack/selector"
	"knapsack/style"
	"knapsack/tree"
)

// author, agent and other parse sheets of these origins.
func author(s string) style.Sheet { return style.Parse(s, style.Author) }

func agent(s string) style.Sheet { return style.Parse(s, style.Agent) }

func other(s string) style.Sheet { return style.Parse(s, 7) }

// values returns the values of declarations, with ! for the important ones.
func values(decls []style.Decl) string {
	var words []string
	for _, d := range decls {
		s := style.FormatValue(d.Value)
		if d.Important {
			s += "!"
		}
		words = append(words, s)
	}
	return strings.Join(words, " ")
}

// P13.1: the declarations of an element in ascending order of their weights.
func TestMatching(t *testing.T) {
	for _, salt := range salts {
		x, at := build(t, salt, `<div><p id=a class=x>1<p id=b style="top: 7px !important; left: 8px">2</div>`)
		for _, c := range []struct {
			id     string
			sheets []style.Sheet
			want   string
		}{
			{"a", nil, ""},
			{"a", []style.Sheet{{}, author(""), author("p{}")}, ""},
			{"a", []style.Sheet{author("b{top:1px}")}, ""},
			// The index in the rule, the index of the rule, the index of the sheet.
			{"a", []style.Sheet{author("p{top:1px;top:2px;left:3px;top:4px}")}, "1px 2px 3px 4px"},
			{"a", []style.Sheet{author("p{top:1px} p{top:2px} b{top:9px} p{left:3px}")}, "1px 2px 3px"},
			{"a", []style.Sheet{author("p{top:1px} p{top:2px}"), author("p{top:3px}")}, "1px 2px 3px"},
			// A specificity is stronger than any index: ids, classes, types.
			{"a", []style.Sheet{author("#a{top:1px} .x{top:2px} p{top:3px} *{top:4px}"), author("*{top:5px} p{top:6px} .x{top:7px} #a{top:8px}")}, "4px 5px 3px 6px 2px 7px 1px 8px"},
			{"a", []style.Sheet{author("p.x{top:1px} .x.x{top:2px} div .x{top:3px} html div p{top:4px} p{top:5px}")}, "5px 4px 1px 3px 2px"},
			{"a", []style.Sheet{author(".x.x.x.x.x.x.x.x.x.x.x.x{top:1px} #a{top:2px} html body div p{top:3px}")}, "3px 1px 2px"},
			{"a", []style.Sheet{author("p:not(#b){top:1px} .x:first-child{top:2px} [id]{top:3px}")}, "3px 2px 1px"},
			// Origins and importance are stronger than any specificity.
			{"a", []style.Sheet{author("p{top:1px}"), agent("#a{top:2px}"), author("#a{top:3px}"), agent("p{top:4px}")}, "4px 2px 1px 3px"},
			{"a", []style.Sheet{agent("p{top:1px!important}"), author("#a{top:2px!important} p{top:3px}"), agent("#a#a{top:4px}"), author("p{top:5px!important}")}, "4px 3px 5px! 2px! 1px!"},
			{"a", []style.Sheet{author("p{top:1px!important;left:2px;top:3px!important;left:4px}")}, "2px 4px 1px! 3px!"},
			{"a", []style.Sheet{other("p{top:1px;top:2px!important}"), agent("#a{top:3px;top:4px!important}"), author("p{top:5px;top:6px!important}")}, "3px 1px 5px 2px! 6px! 4px!"},
			// The greatest specificity of the selectors that match, once for each rule.
			{"a", []style.Sheet{author("p,#a,*{top:1px} .x{top:2px} p,*,#b{top:3px} *,.x{top:4px} #b,div,p p{top:5px}")}, "3px 2px 4px 1px"},
			{"a", []style.Sheet{author("*,p,*,p{top:1px} p,*,p{top:2px} p{top:3px}")}, "1px 2px 3px"},
			// The attribute style is stronger than all rules of authors, but not than importance.
			{"b", []style.Sheet{author("#b#b#b#b{top:1px} #b{top:2px!important}"), agent("p{top:3px!important} #b{top:4px}")}, "4px 1px 8px 2px! 7px! 3px!"},
			{"b", nil, "8px 7px!"},
		} {
			got := cascade.Matching(x, at(c.id), c.sheets, selector.State{})
			if values(got) != c.want {
				t.Errorf("Matching of %s is %s, not %s, with\n%s", c.id, values(got), c.want, show(c.sheets))
			}
			got, want := cascade.Matching(x, at(c.id), c.sheets, selector.State{}), modelMatching(x, at(c.id), c.sheets, selector.State{})
			if !slices.Equal(got, want) {
				t.Errorf("Matching of %s is %v, not %v", c.id, got, want)
			}
		}
	}
}

// P13.1: the state is what selectors see.
func TestState(t *testing.T) {
	x, at := build(t, api.Salt{}, `<p id=p><b id=b>1</b><i id=i>2</i></p>`)
	sheets := []style.Sheet{author(":focus{left:1px} :hover{top:2px} :checked{width:3px} :focus+i{height:4px} p:not(:hover){order:5}")}
	for _, c := range []struct {
		state   selector.State
		p, b, i string
	}{
		{selector.State{}, "5", "", ""},
		{selector.State{Focus: at("b")}, "5", "1px", "4px"},
		{selector.State{Hover: at("b"), Checked: []api.Handle{at("p"), at("i")}}, "2px 3px", "2px", "3px"},
		{selector.State{Focus: at("i"), Hover: at("p"), Checked: []api.Handle{at("i")}}, "2px", "", "1px 3px"},
	} {
		styles := cascade.Compute(x, sheets, c.state)
		for id, want := range map[string]string{"p": c.p, "b": c.b, "i": c.i} {
			got := cascade.Matching(x, at(id), sheets, c.state)
			if values(got) != want {
				t.Errorf("%v: Matching of %s is %s, not %s", c.state, id, values(got), want)
			}
			if s, ok := styles.Get(at(id)); !ok || s != cascade.Apply(got, cascade.Initial()) {
				t.Errorf("%v: the style of %s is %+v, %v", c.state, id, s, ok)
			}
		}
	}
}

// P13.1: what is no element has no declarations, and what the document does not contain has no style.
func TestOtherNodes(t *testing.T) {
	x, at := build(t, api.Salt{Base: 5, Stride: 7}, `<!--c--><p id=p style="color:red">1<b id=b>2</b><!--c-->`)
	sheets := []style.Sheet{author("*{top:1px} b{color:blue} p b{left:2px} html>b{left:3px}")}
	for h := range x.Nodes.All() {
		n, _ := x.Node(h)
		got := cascade.Matching(x, h, sheets, selector.State{})
		if (len(got) > 0) != (n.Kind == tree.Element) {
			t.Errorf("Matching of a node of the kind %d is %v", n.Kind, got)
		}
	}
	for _, h := range []api.Handle{0, 1, -5, 6, 1 << 50} {
		if got := cascade.Matching(x, h, sheets, selector.State{}); len(got) > 0 {
			t.Errorf("Matching of no node is %v", got)
		}
	}
	all := cascade.Compute(x, sheets, selector.State{})
	x.Remove(at("p"))
	if got := values(cascade.Matching(x, at("b"), sheets, selector.State{})); got != "1px #0000ff 2px" {
		t.Errorf("Matching of a detached element is %s", got)
	}
	rest := cascade.Compute(x, sheets, selector.State{})
	if len(all.List) != 5 || len(rest.List) != 3 || !slices.Equal(rest.List, all.List[:3]) {
		t.Errorf("the styles are\n%v, and without p\n%v", all, rest)
	}
	for _, empty := range []*tree.Tree{nil, {}, tree.New(api.Salt{})} {
		if got := cascade.Compute(empty, sheets, selector.State{}); len(got.List) > 0 {
			t.Errorf("Compute of a tree without elements is %v", got)
		}
		for _, h := range []api.Handle{0, 1} {
			if got := cascade.Matching(empty, h, sheets, selector.State{}); len(got) > 0 {
				t.Errorf("Matching of a tree without elements is %v", got)
			}
		}
	}
}

// P13.1: an element inherits from its parent, and the root element from Initial.
func TestCompute(t *testing.T) {
	x, at := build(t, api.Salt{}, `<div id=d>1<p id=p><b id=b>2</b></p><i id=i style="border-color:inherit;width:inherit">3</i></div>`)
	sheets := []style.Sheet{
		agent("html{font-size:10px;display:inherit} div{font-size:2em;line-height:1.5;color:red;border-color:blue;width:50%}"),
		author("p{font-size:50%;line-height:normal;visibility:hidden;display:block} b{font-size:3em;white-space:pre;left:1em}"),
	}
	styles := cascade.Compute(x, sheets, selector.State{})
	var names []string
	for _, e := range styles.List {
		n, _ := x.Node(e.Node)
		names = append(names, n.Name)
	}
	if !slices.Equal(names, []string{"html", "head", "body", "div", "p", "b", "i"}) {
		t.Errorf("the styles are those of %v", names)
	}
	first := cascade.Initial()
	body := with(plain(first), "font-size", 10)
	div := with(with(with(with(with(body, "font-size", 20), "line-height", 30), "color", "#ff0000"), "border-color", "#0000ff"), "width", percent(5000))
	p := with(with(with(with(plain(div), "font-size", 10), "line-height", 12), "visibility", cascade.Hidden), "display", cascade.Block)
	b := with(with(with(plain(p), "font-size", 30), "white-space", cascade.Pre), "left", px(30))
	i := with(with(plain(div), "border-color", "#0000ff"), "width", percent(5000))
	html := with(body, "display", cascade.Block)
	for k, want := range []cascade.Style{html, body, body, div, p, b, i} {
		if got := styles.List[k].Style; got != want {
			t.Errorf("the style of %s is\n%+v, not\n%+v", names[k], got, want)
		}
	}
	if got, ok := styles.Get(at("b")); !ok || got != b {
		t.Errorf("Get of b is %v, %+v", ok, got)
	}
}

// P13.1: the examples of the chapter.
func TestExamples(t *testing.T) {
	x, at := build(t, api.Salt{}, `<p id=a style="color:red">`)
	for s, want := range map[string]string{"#a { color: blue !important } p { color: green }": "#0000ff", "#a { color: blue } p { color: green }": "#ff0000"} {
		for _, sheets := range [][]style.Sheet{{author(s)}, {style.Default(), author(s)}, {author(s), style.Default()}} {
			styles := cascade.Compute(x, sheets, selector.State{})
			if got, ok := styles.Get(at("a")); !ok || got.Color != want || got.BorderColor != want {
				t.Errorf("with %s the color is %s, not %s", s, got.Color, want)
			}
		}
	}
	for s, want := range map[string][2]int{"font-size: 2em": {20, 20}, "font-size: 2em; line-height: 1.5": {20, 30}} {
		x, at := build(t, api.Salt{}, `<p style="font-size: 10px"><b id=b style="`+s+`">`)
		styles := cascade.Compute(x, nil, selector.State{})
		if got, _ := styles.Get(at("b")); got.FontSize != want[0] || got.LineHeight != want[1] {
			t.Errorf("with %s the sizes are %d and %d, not %v", s, got.FontSize, got.LineHeight, want)
		}
	}
	if got, ok := cascade.Resolve(percent(1250), 80); got != 10 || !ok {
		t.Errorf("Resolve is %d, %v", got, ok)
	}
}

// P13.1: the engine's own sheet gives elements their displays and sizes.
func TestDefaultSheet(t *testing.T) {
	x, _ := build(t, api.Salt{}, `<title>1</title><h1>2</h1><ul><li><a>3</a></ul><table><tr><td>4</table><pre>5</pre><input>`)
	var lines []string
	for _, e := range cascade.Compute(x, []style.Sheet{style.Default()}, selector.State{}).List {
		n, _ := x.Node(e.Node)
		s := e.Style
		lines = append(lines, fmt.Sprint(n.Name, " ", s.Display, s.FontSize, s.Margin[0].Value, s.Margin[3].Value, s.Padding[3].Value, s.Border[2], s.WhiteSpace, " ", s.Color))
	}
	want := `html 1 16 0 0 0 0 0 #000000
head 0 16 0 0 0 0 0 #000000
title 0 16 0 0 0 0 0 #000000
body 1 16 8 8 0 0 0 #000000
h1 1 32 21 0 0 0 0 #000000
ul 1 16 16 0 40 0 0 #000000
li 8 16 0 0 0 0 0 #000000
a 2 16 0 0 0 0 0 #0000ff
table 5 16 0 0 0 0 0 #000000
tbody 9 16 0 0 0 0 0 #000000
tr 6 16 0 0 0 0 0 #000000
td 7 16 0 0 1 0 0 #000000
pre 1 16 16 0 0 0 2 #000000
input 3 16 0 0 4 1 0 #000000`
	if got := strings.Join(lines, "\n"); got != want {
		t.Errorf("the styles are\n%s\nnot\n%s", got, want)
	}
}

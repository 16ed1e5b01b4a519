package treebuild_test

import (
	"slices"
	"strings"
	"testing"

	"knapsack/api"
	"knapsack/markup"
	"knapsack/tree"
	"knapsack/treebuild"
)

// first returns the first element with that name of a tree.
func first(t *tree.Tree, name string) api.Handle {
	for h := range t.Walk(t.Root) {
		if n, _ := t.Node(h); n.Name == name {
			return h
		}
	}
	return 0
}

// puts checks what the body of a document contains after a text was put into its first element with that name.
func puts(t *testing.T, document, name, s, want string) {
	t.Helper()
	x := treebuild.Build(document, api.Salt{Base: 10, Stride: 3})
	if _, e := treebuild.Fragment(x, first(x, name), s); e != api.OK {
		t.Errorf("Fragment(%q) returns the error %d", s, e)
	}
	if want != "" {
		want = "(" + want + ")"
	}
	if got := look(x, first(x, "body")); got != "body"+want {
		t.Errorf("with %q in %s of %q, there is %s, not body%s", s, name, document, short(got), want)
	}
	if !x.Valid() {
		t.Errorf("with %q in %s of %q, the tree is not valid", s, name, document)
	}
}

func TestFragment(t *testing.T) {
	puts(t, "a<div>b<i>c</i></div>d", "div", "", `"a" div "d"`)
	puts(t, "a<div>b<i>c</i></div>d", "div", "x<p>y<p>z", `"a" div("x" p("y") p("z")) "d"`)
	puts(t, "<div x=1>b", "div", " &lt;<!--c--><!doctype d>e", `div(x=1 " <" !c "e")`)
	puts(t, "<div>", "div", "<ul><li>a<li>b<table>c<td>d", `div(ul(li("a") li("bc" table(tbody(tr(td("d")))))))`)
	puts(t, "<div>", "div", "<title>a</title><script>b</script><meta><link>", `div(title("a") script("b") meta link)`)
	puts(t, "<div>", "div", "<p><b>a</p>b<script>c", `div(p(b("a")) b("b" script("c")))`)
	puts(t, "<div><b>", "div", "</b>a</i><b><p>b</p>c", `div("a" b(p("b") "c"))`)
	puts(t, "a", "body", "<title>b</title>c", `title("b") "c"`)
}

func TestFragmentReadsNoDocumentParts(t *testing.T) {
	for _, name := range []string{"html", "head", "body", "div"} {
		x := treebuild.Build("<!--a--><div>", api.Salt{})
		records, e := treebuild.Fragment(x, first(x, name), "a<html b=1><head c=2><body d=3>e</head></body></html>f")
		if e != api.OK || len(records) == 0 {
			t.Error(name, records, e)
		}
		n, _ := x.Node(first(x, name))
		if got, want := look(x, first(x, name)), name+`("aef")`; got != want || len(n.Attrs) != 0 {
			t.Errorf("there is %s, not %s", got, want)
		}
	}
	puts(t, "<div>", "div", "<head>a<title>b</title></head><p>c</head>d", `div("a" title("b") p("cd"))`)
}

// A rule that would close the parent does not close what is open within it, either.
func TestFragmentNeverClosesParent(t *testing.T) {
	for s, want := range map[string]string{
		"a</p>b":         `p("ab")`,
		"a<b>b</p>c":     `p("a" b("bc"))`,
		"a<div>b</div>c": `p("a" div("b") "c")`,
		"<b>a<div>b":     `p(b("a" div("b")))`,
		"<li>a<p>b":      `p(li("a" p("b")))`,
		"a<p>b<p>c":      `p("a" p("b") p("c"))`,
		"<button></p>a":  `p(button(p "a"))`,
	} {
		x, p := tree.New(api.Salt{}), 0
		p, _ = x.Make(tree.Element, "p", "", nil)
		if _, e := treebuild.Fragment(x, p, s); e != api.OK || look(x, p) != want {
			t.Errorf("with %q in p, there is %s, not %s; error %d", s, look(x, p), want, e)
		}
	}
	puts(t, "<li>", "li", "a</li>b<li>c<li>d</li></li>e", `li("ab" li("c") li("d") "e")`)
	puts(t, "<h1>", "h1", "a</h1>b</h2><h3>c<h4>d", `h1("ab" h3("c") h4("d"))`)
	puts(t, "<b>", "b", "a</b>c<i>d</b>e", `b("ac" i("de"))`)
	puts(t, "<b>", "b", "<p><b>a</p></b>c", `b(p(b("a")) b("c"))`)
	puts(t, "<a>", "a", "a<a>b<a>c</a></a>d", `a("a" a("b") a("c") "d")`)
	puts(t, "<button>", "button", "a<button>b<button>c</button></button>d", `button("a" button("b") button("c") "d")`)
	puts(t, "<button>", "button", "<p><b>a</p></button>b", `button(p(b("a")) b("b"))`)
	puts(t, "<form>", "form", "a<form>b</form>c", `form("abc")`)
	puts(t, "<x>", "x", "a</x>b<y></x>c", `x("ab" y("c"))`)
	puts(t, "<script></script>", "body", "<script>a</script></body>b", `script("a") "b"`)
}

func TestFragmentInTable(t *testing.T) {
	const table = "<div>a<table><tr><td>b"
	puts(t, table, "td", "c<td>d</td><tr>e</tr></table>f", `div("a" table(tbody(tr(td("cdef")))))`)
	puts(t, table, "tr", "<td>c</td>d <br><!--e--></tr>", `div("a" table(tbody(tr)))`)
	puts(t, table, "tbody", "<tr><td>c", `div("a" table(tbody))`)
	puts(t, table, "table", "<td>c</table>d<tr>e", `div("ae" table(tbody(tr(td("cd")) tr)))`)
	puts(t, table, "table", "c</table><br> <td>d", `div("ac" br table(tbody(tr(td("d")))))`)
	puts(t, table, "td", "<table>c<td>d", `div("a" table(tbody(tr(td("c" table(tbody(tr(td("d")))))))))`)
	puts(t, table, "td", "<b>x<p></td>c<table></td></table><td>d", `div("a" table(tbody(tr(td(b("x" p("c") table "d"))))))`)
}

// Ahead of a table without a parent there is no place.
func TestFragmentInDetachedTable(t *testing.T) {
	x := tree.New(api.Salt{})
	table, _ := x.Make(tree.Element, "table", "", nil)
	records, e := treebuild.Fragment(x, table, "a<br><!--b--><i>c</i><tr>d<td>e")
	if got, want := look(x, table), `table(tbody(tr(td("e"))))`; got != want || e != api.OK || len(records) != 4 {
		t.Errorf("there is %s, not %s: error %d, records %v", got, want, e, records)
	}
	if x.Nodes.Len() != 6 {
		t.Error("there are", x.Nodes.Len(), "nodes: those that are not inserted have to be dropped")
	}
}

func TestFragmentInRawElement(t *testing.T) {
	x := tree.New(api.Salt{})
	script, _ := x.Make(tree.Element, "script", "", nil)
	if _, e := treebuild.Fragment(x, script, "a<p> b</p></script>c<b></b>"); e != api.OK {
		t.Error("Fragment returns the error", e)
	}
	if got, want := look(x, script), `script("a" p(" b") "c" b)`; got != want {
		t.Errorf("there is %s, not %s", got, want)
	}
}

func TestFragmentErrors(t *testing.T) {
	x := treebuild.Build("<!--a--><p>b", api.Salt{Base: 10, Stride: 3})
	text, comment := x.Kids(first(x, "p"))[0], x.Kids(x.Root)[0]
	before := look(x, x.Root)
	for h, want := range map[api.Handle]api.Errno{0: api.ErrNone, -1: api.ErrNone, 11: api.ErrNone, 9999: api.ErrNone, x.Root: api.ErrTree, text: api.ErrTree, comment: api.ErrTree} {
		if records, e := treebuild.Fragment(x, h, "<p>c"); e != want || len(records) != 0 {
			t.Errorf("Fragment of %d returns the error %d, not %d, and %v", h, e, want, records)
		}
	}
	if look(x, x.Root) != before || x.Nodes.Len() != 7 {
		t.Error("an error has changed the tree to", look(x, x.Root))
	}
	if records, e := treebuild.Fragment(nil, 1, "<p>"); e != api.ErrNone || len(records) != 0 {
		t.Error("Fragment of no tree returns the error", e)
	}
}

// The nodes that were children stay in the arena, with what they contain.
func TestFragmentRemovesChildren(t *testing.T) {
	x := treebuild.Build("<div>a<p>b</p><!--c-->", api.Salt{Base: 10, Stride: 3})
	div := first(x, "div")
	kids := x.Kids(div)
	records, e := treebuild.Fragment(x, div, "d")
	want := []tree.Record{
		{Kind: tree.Removed, Target: div, Node: kids[0], Next: kids[1]},
		{Kind: tree.Removed, Target: div, Node: kids[1], Next: kids[2]},
		{Kind: tree.Removed, Target: div, Node: kids[2]},
		{Kind: tree.Inserted, Target: div, Node: x.Kids(div)[0]},
	}
	if e != api.OK || !slices.Equal(records, want) {
		t.Errorf("the records are %+v, not %+v; error %d", records, want, e)
	}
	for i, want := range []string{`"a"`, `p("b")`, "!c"} {
		if got := look(x, kids[i]); got != want || x.Top(kids[i]) != kids[i] {
			t.Errorf("child %d is %s, not %s", i, got, want)
		}
	}
}

func TestFragmentsFollowModel(t *testing.T) {
	next := random()
	parents := strings.Fields("div p b a li ul h1 button form table tbody tr td caption script textarea html head body span")
	for range 4000 {
		name, s := parents[next(len(parents))], randomDocument(next, 25)
		x := tree.New(salts[next(len(salts))])
		outer, _ := x.Make(tree.Element, "div", "", nil)
		h, _ := x.Make(tree.Element, name, "", []api.Attr{{Name: "a", Value: "b"}})
		top := &thing{name: "div"}
		parent := &thing{name: name, attrs: []api.Attr{{Name: "a", Value: "b"}}}
		m := &model{root: top, html: parent, head: parent, body: parent, count: 3, open: []*thing{parent}}
		if next(3) > 0 {
			x.Insert(outer, h, 0)
			parent.parent, top.kids = top, []*thing{parent}
		}
		_, e := treebuild.Fragment(x, h, s)
		for _, token := range markup.Tokens(s) {
			m.process(token)
		}
		if got, want := look(x, h)+look(x, outer), parent.look()+top.look(); got != want || e != api.OK {
			t.Fatalf("with %q in %s there is %s, not %s; error %d", s, name, got, want, e)
		}
	}
}

// A text that no document may have is a fragment all the same: only the limits of the tree are kept.
func TestLongFragment(t *testing.T) {
	x := treebuild.Build("<div>", api.Salt{})
	if _, e := treebuild.Fragment(x, first(x, "div"), strings.Repeat("<!---->", 10)+strings.Repeat("&amp;", api.MaxString)+"<p>y"); e != api.OK {
		t.Error("Fragment returns the error", e)
	}
	if got, want := x.Content(x.Root), strings.Repeat("&", api.MaxString)+"y"; got != want {
		t.Errorf("the content has %d bytes, not %d", len(got), len(want))
	}
}

package tree_test

import (
	"fmt"
	"math"
	"slices"
	"strings"
	"testing"

	"knapsack/api"
	"knapsack/arena"
	"knapsack/tree"
)

// salts have numbers within the range from 1 to 1000, at its ends, and outside of it.
var salts = []api.Salt{{}, {Base: 10, Stride: 3}, {Base: 1000, Stride: 1000}, {Base: -5, Stride: 5000}}

// random returns a function whose results are those of a fixed sequence, each reduced to less than its argument.
func random() func(below int) int {
	state := uint64(1)
	return func(below int) int {
		state = state*6364136223846793005 + 1442695040888963407
		return int(state>>33) % below
	}
}

// garden makes nodes of a tree, without expecting an error.
type garden struct {
	*testing.T
	t *tree.Tree
}

func newGarden(t *testing.T) garden { return garden{t, tree.New(api.Salt{Base: 10, Stride: 3})} }

func (g garden) make(kind int, name, data string, attrs ...api.Attr) api.Handle {
	g.Helper()
	h, e := g.t.Make(kind, name, data, attrs)
	if e != api.OK {
		g.Fatalf("Make(%d, %.20q, %.20q) returns the error %d", kind, name, data, e)
	}
	return h
}

func (g garden) text(data string) api.Handle    { g.Helper(); return g.make(tree.Text, "", data) }
func (g garden) comment(data string) api.Handle { g.Helper(); return g.make(tree.Comment, "", data) }

func (g garden) element(name string, kids ...api.Handle) api.Handle {
	g.Helper()
	h := g.make(tree.Element, name, "")
	for _, kid := range kids {
		g.insert(h, kid, 0)
	}
	return h
}

func (g garden) insert(parent, node, before api.Handle) []tree.Record {
	g.Helper()
	records, e := g.t.Insert(parent, node, before)
	if e != api.OK {
		g.Fatalf("Insert(%d, %d, %d) returns the error %d", parent, node, before, e)
	}
	return records
}

// chain returns the outermost and the innermost one of so many elements, each in the one before.
func (g garden) chain(levels int) (outer, inner api.Handle) {
	g.Helper()
	outer = g.element("d")
	inner = outer
	for range levels - 1 {
		kid := g.element("d")
		g.insert(inner, kid, 0)
		inner = kid
	}
	return outer, inner
}

// looks checks what a node and its descendants look like, and that the tree is valid.
func (g garden) looks(h api.Handle, want string) {
	g.Helper()
	if got := look(g.t, h); got != want {
		g.Errorf("there is %s, not %s", got, want)
	}
	if !g.t.Valid() {
		g.Errorf("the tree with %s is not valid", want)
	}
}

// look writes a node and its descendants in a short form.
func look(t *tree.Tree, h api.Handle) string {
	n, ok := t.Node(h)
	switch {
	case !ok:
		return "nothing"
	case n.Kind == tree.Text:
		return fmt.Sprintf("%q", n.Data)
	case n.Kind == tree.Comment:
		return "!" + n.Data
	case n.Kind == tree.Document:
		n.Name = "#"
	}
	var parts []string
	for _, a := range n.Attrs {
		parts = append(parts, a.Name+"="+a.Value)
	}
	for _, kid := range t.Kids(h) {
		parts = append(parts, look(t, kid))
	}
	if parts == nil {
		return n.Name
	}
	return n.Name + "(" + strings.Join(parts, " ") + ")"
}

// refuses checks that a mutation returns an error and nothing else, and changes nothing.
func (g garden) refuses(what string, want api.Errno, call func() ([]tree.Record, api.Errno)) {
	g.Helper()
	before := fmt.Sprintf("%+v", *g.t)
	records, e := call()
	if e != want || len(records) != 0 {
		g.Errorf("%s returns %v and the error %d, not %d", what, records, e, want)
	}
	if fmt.Sprintf("%+v", *g.t) != before {
		g.Errorf("%s changes the tree", what)
	}
}

// handles is refuses for functions that return a handle.
func handles(h api.Handle, e api.Errno) ([]tree.Record, api.Errno) {
	if h != 0 {
		return []tree.Record{{Node: h}}, e
	}
	return nil, e
}

func check(t *testing.T, what string, got, want []tree.Record) {
	t.Helper()
	if !slices.Equal(got, want) {
		t.Errorf("%s has the records\n%+v, not\n%+v", what, got, want)
	}
}

// P7.1: the kinds have the numbers of the document.
func TestKinds(t *testing.T) {
	kinds := []int{tree.Document, tree.Element, tree.Text, tree.Comment, tree.Inserted, tree.Removed, tree.Attribute, tree.Data}
	if !slices.Equal(kinds, []int{1, 2, 3, 4, 1, 2, 3, 4}) {
		t.Error(kinds)
	}
}

// P7.1: a new tree consists of a Document, and has the salt as it is passed.
func TestNew(t *testing.T) {
	for _, salt := range salts {
		n := tree.New(salt)
		root, ok := n.Node(n.Root)
		if !ok || root.Kind != tree.Document || n.Nodes.Len() != 1 || n.Nodes.Salt != salt || !n.Valid() {
			t.Errorf("New(%v) is %+v", salt, n)
		}
		if kids := n.Kids(n.Root); len(kids) != 0 || n.Index(n.Root) != -1 || n.Top(n.Root) != n.Root {
			t.Errorf("the document of a new tree is %+v", root)
		}
	}
}

// P7.1: the example of the document about a list.
func TestExampleOfList(t *testing.T) {
	g := newGarden(t)
	v, w := g.element("li", g.text("a")), g.element("li", g.text("b"))
	u := g.element("ul", v, w)
	check(t, "the move", g.insert(u, w, v), []tree.Record{
		{Kind: tree.Removed, Target: u, Node: w, Prev: v, Next: 0, Index: 1},
		{Kind: tree.Inserted, Target: u, Node: w, Prev: 0, Next: v, Index: 0},
	})
	g.looks(u, `ul(li("b") li("a"))`)
	g.refuses("Insert(v, u, 0)", api.ErrTree, func() ([]tree.Record, api.Errno) { return g.t.Insert(v, u, 0) })
}

// P7.1: the example of the document about a Text.
func TestExampleOfText(t *testing.T) {
	g := newGarden(t)
	h := g.text("héllo")
	records, e := g.t.Replace(h, 1, 9, "i")
	if e != api.OK {
		t.Error(e)
	}
	check(t, "Replace", records, []tree.Record{{Kind: tree.Data, Target: h, Index: 1, Count: 4, Size: 1, Old: "héllo"}})
	g.looks(h, `"hi"`)
}

// P7.1: what Make stores, and what it ignores.
func TestMake(t *testing.T) {
	g := newGarden(t)
	bad := []api.Attr{{Name: "A"}, {Name: "x"}, {Name: "x"}}
	many := make([]api.Attr, api.MaxAttrs+1)
	long := strings.Repeat("x", api.MaxString+1)
	for _, c := range []struct {
		kind       int
		name, data string
		attrs      []api.Attr
		want       tree.Node
	}{
		{tree.Text, "", "a", nil, tree.Node{Kind: tree.Text, Data: "a"}},
		{tree.Text, "B", "", bad, tree.Node{Kind: tree.Text}},
		{tree.Text, long, "a\xFFb", many, tree.Node{Kind: tree.Text, Data: "a\uFFFDb"}},
		{tree.Comment, "", "a\x00\r\n", nil, tree.Node{Kind: tree.Comment, Data: "a\x00\r\n"}},
		{tree.Comment, "b", "\xE2\x82", bad, tree.Node{Kind: tree.Comment, Data: "\uFFFD\uFFFD"}},
		{tree.Comment, "", "", many, tree.Node{Kind: tree.Comment}},
		{tree.Element, "p", long, nil, tree.Node{Kind: tree.Element, Name: "p"}},
		{tree.Element, "p", "a", []api.Attr{{Name: "b", Value: "\xFF"}, {Name: "a", Value: "A b"}}, tree.Node{
			Kind: tree.Element, Name: "p", Attrs: []api.Attr{{Name: "b", Value: "\uFFFD"}, {Name: "a", Value: "A b"}},
		}},
	} {
		h := g.make(c.kind, c.name, c.data, c.attrs...)
		n, ok := g.t.Node(h)
		if !ok || !slices.Equal(n.Attrs, c.want.Attrs) {
			t.Errorf("a node has the attributes %q, not %q", n.Attrs, c.want.Attrs)
		}
		n.Attrs, c.want.Attrs = nil, nil
		if fmt.Sprint(n) != fmt.Sprint(c.want) || g.t.Top(h) != h {
			t.Errorf("a node is %.100v, not %.100v", n, c.want)
		}
	}
	if !g.t.Valid() {
		t.Error("the tree is not valid")
	}
}

// P7.1: other kinds than Element, Text and Comment are refused, ahead of the limits.
func TestMakeOfOtherKinds(t *testing.T) {
	g := newGarden(t)
	long := strings.Repeat("x", api.MaxString+1)
	for _, kind := range []int{math.MinInt, -1, 0, tree.Document, 5, math.MaxInt} {
		for _, data := range []string{"", long} {
			g.refuses(fmt.Sprintf("Make(%d)", kind), api.ErrArg, func() ([]tree.Record, api.Errno) {
				return handles(g.t.Make(kind, "p", data, nil))
			})
		}
	}
}

// names are strings, and whether they are valid names of elements and of attributes.
func names() map[string][2]bool {
	list := map[string][2]bool{
		"": {}, "p": {true, true}, "z": {true, true}, "h1": {true, true}, "1h": {false, true}, "-": {false, true}, "p-q": {true, true},
		"P": {}, "pQ": {}, "pZ": {}, "p[": {true, true}, "p@": {true, true}, "`": {false, true}, "{": {false, true},
		"p=": {true, false}, "=": {false, true}, "==": {}, "=p": {false, true}, "=p=": {}, "p=q": {true, false},
		"p/": {}, "/": {}, "p>": {}, ">p": {}, "p<": {true, true}, "<": {false, true}, "p\"'&": {true, true}, "\"": {false, true},
		"p\x00": {true, true}, "\x00": {false, true}, "p\v": {true, true}, "p\u00A0": {true, true},
		"é": {false, true}, "pé€\U0001F600": {true, true}, "pÉ": {true, true}, "p\uFFFD": {true, true},
		"p\xFF": {}, "p\xE2\x82": {}, "\xED\xA0\x80": {}, "p\xC0\x80": {},
	}
	for _, space := range "\t\n\f\r " {
		list[string(space)], list["p"+string(space)], list["p"+string(space)+"q"] = [2]bool{}, [2]bool{}, [2]bool{}
	}
	return list
}

// P7.1: which names of elements and attributes are valid, for Make and for SetAttr.
func TestNames(t *testing.T) {
	errors := map[bool]api.Errno{true: api.OK, false: api.ErrArg}
	for name, valid := range names() {
		g := newGarden(t)
		h := g.element("p")
		if _, e := g.t.Make(tree.Element, name, "", nil); e != errors[valid[0]] {
			t.Errorf("Make of an element with the name %q returns the error %d", name, e)
		}
		if _, e := g.t.Make(tree.Element, "p", "", []api.Attr{{Name: "a"}, {Name: name}}); e != errors[valid[1]] {
			t.Errorf("Make of an attribute with the name %q returns the error %d", name, e)
		}
		if _, e := g.t.SetAttr(h, name, "x"); e != errors[valid[1]] {
			t.Errorf("SetAttr with the name %q returns the error %d", name, e)
		}
		if value, ok := g.t.Attr(h, name); ok != valid[1] || ok && value != "x" {
			t.Errorf("Attr with the name %q is %q, %v", name, value, ok)
		}
		if records, e := g.t.DropAttr(h, name); e != api.OK || len(records) == 1 != valid[1] {
			t.Errorf("DropAttr with the name %q returns %v, %d", name, records, e)
		}
		if !g.t.Valid() {
			t.Errorf("the tree with the name %q is not valid", name)
		}
	}
}

// P7.1: two attributes with the same name are refused, wherever they are, ahead of the limits.
func TestMakeOfEqualNames(t *testing.T) {
	g := newGarden(t)
	var many []api.Attr
	for i := range 200000 {
		many = append(many, api.Attr{Name: fmt.Sprint("a", i)})
	}
	long := strings.Repeat("x", api.MaxString+1)
	for _, attrs := range [][]api.Attr{
		{{Name: "a"}, {Name: "a"}},
		{{Name: "a", Value: "1"}, {Name: "b"}, {Name: "c"}, {Name: "a", Value: "2"}},
		{{Name: "a", Value: long}, {Name: "b"}, {Name: "b"}},
		append(many, api.Attr{Name: "a0"}),
		append(many, api.Attr{Name: "A"}),
	} {
		g.refuses("Make of equal or wrong names", api.ErrArg, func() ([]tree.Record, api.Errno) {
			return handles(g.t.Make(tree.Element, "p", "", attrs))
		})
	}
	g.refuses("Make of many attributes", api.ErrLimit, func() ([]tree.Record, api.Errno) {
		return handles(g.t.Make(tree.Element, "p", "", many))
	})
	g.refuses("Make of a wrong name with many attributes", api.ErrArg, func() ([]tree.Record, api.Errno) {
		return handles(g.t.Make(tree.Element, "P", "", many))
	})
}

// attributes returns so many attributes with different names.
func attributes(count int) []api.Attr {
	var list []api.Attr
	for i := range count {
		list = append(list, api.Attr{Name: fmt.Sprint("a", i), Value: fmt.Sprint(i)})
	}
	return list
}

// P7.1: an element has at most MaxAttrs attributes, by Make and by SetAttr; an attribute that exists can always be set.
func TestLimitOfAttributes(t *testing.T) {
	g := newGarden(t)
	g.refuses("Make", api.ErrLimit, func() ([]tree.Record, api.Errno) {
		return handles(g.t.Make(tree.Element, "p", "", attributes(api.MaxAttrs+1)))
	})
	full := g.make(tree.Element, "p", "", attributes(api.MaxAttrs)...)
	g.refuses("SetAttr", api.ErrLimit, func() ([]tree.Record, api.Errno) { return g.t.SetAttr(full, "b", "") })
	g.refuses("SetAttr of a wrong name", api.ErrArg, func() ([]tree.Record, api.Errno) { return g.t.SetAttr(full, "B", "") })
	if _, e := g.t.SetAttr(full, "a63", "new"); e != api.OK {
		t.Errorf("setting the last attribute returns the error %d", e)
	}
	g.t.DropAttr(full, "a0")
	if _, e := g.t.SetAttr(full, "a0", "last"); e != api.OK || !g.t.Valid() {
		t.Errorf("setting the attribute that was dropped returns the error %d", e)
	}
	n, _ := g.t.Node(full)
	want := append(attributes(api.MaxAttrs)[1:], api.Attr{Name: "a0", Value: "last"})
	want[62].Value = "new"
	if !slices.Equal(n.Attrs, want) {
		t.Errorf("the attributes are %q", n.Attrs)
	}
}

// P7.1: data and values have at most MaxString bytes, in repaired form.
func TestLimitOfStrings(t *testing.T) {
	for _, unit := range []string{"x", "\uFFFD", "\xFF"} {
		size := 1
		if unit != "x" {
			size = 3
		}
		most := strings.Repeat("y", api.MaxString%size) + strings.Repeat(unit, api.MaxString/size)
		for _, c := range []struct {
			s    string
			want api.Errno
		}{{most, api.OK}, {most + "z", api.ErrLimit}} {
			g := newGarden(t)
			element, empty := g.element("p"), g.text("")
			_, e1 := g.t.Make(tree.Text, "", c.s, nil)
			_, e2 := g.t.Make(tree.Comment, "", c.s, nil)
			_, e3 := g.t.Make(tree.Element, "p", "", []api.Attr{{Name: "a"}, {Name: "b", Value: c.s}})
			_, e4 := g.t.SetAttr(element, "a", c.s)
			_, e5 := g.t.SetAttr(element, "a", c.s)
			_, e6 := g.t.Replace(empty, 0, 0, c.s)
			if got := []api.Errno{e1, e2, e3, e4, e5, e6}; slices.ContainsFunc(got, func(e api.Errno) bool { return e != c.want }) {
				t.Errorf("strings of %q: the errors %d, not %d", unit, got, c.want)
			}
			if !g.t.Valid() {
				t.Errorf("strings of %q: the tree is not valid", unit)
			}
		}
	}
}

// P7.1: Replace refuses what makes the data too long, and counts what it removes.
func TestLimitOfReplace(t *testing.T) {
	g := newGarden(t)
	h := g.text(strings.Repeat("é", api.MaxString/2))
	for _, c := range []struct {
		index, count int
		s            string
		want         api.Errno
	}{
		{0, 0, "x", api.ErrLimit},
		{api.MaxString / 2, math.MaxInt, "x", api.ErrLimit},
		{9, 1, "€", api.ErrLimit},
		{9, 1, "\xFF", api.ErrLimit},
		{api.MaxString/2 + 1, 0, "x", api.ErrRange},
		{9, 1, "xy", api.OK},
		{9, 2, "ö", api.OK},
		{api.MaxString/2 - 1, 9, "ä", api.OK},
		{0, math.MaxInt, "", api.OK},
	} {
		if _, e := g.t.Replace(h, c.index, c.count, c.s); e != c.want || !g.t.Valid() {
			t.Errorf("Replace(%d, %d, %q) returns the error %d, not %d", c.index, c.count, c.s, e, c.want)
		}
	}
	g.looks(h, `""`)
}

// P7.1: a tree has at most MaxNodes nodes, with its Document and the detached ones.
func TestLimitOfNodes(t *testing.T) {
	g := newGarden(t)
	list := g.element("ul", g.element("li", g.text("a")), g.comment("b"))
	single := g.text("x")
	for g.t.Nodes.Len() < api.MaxNodes-4 {
		g.text("")
	}
	copied, e := g.t.Copy(list, true)
	if e != api.OK || g.t.Nodes.Len() != api.MaxNodes {
		t.Fatalf("the copy that makes the tree full returns the error %d; there are %d nodes", e, g.t.Nodes.Len())
	}
	refused := func(what string, want api.Errno, h api.Handle, e api.Errno) {
		t.Helper()
		if h != 0 || e != want || g.t.Nodes.Len() > api.MaxNodes {
			t.Errorf("%s returns %d and the error %d, not %d", what, h, e, want)
		}
	}
	for kind := tree.Element; kind <= tree.Comment; kind++ {
		h, e := g.t.Make(kind, "p", "x", nil)
		refused("Make", api.ErrLimit, h, e)
	}
	h, e := g.t.Make(tree.Element, "P", "x", nil)
	refused("Make with a wrong name", api.ErrArg, h, e)
	h, e = g.t.Copy(single, false)
	refused("Copy of a Text", api.ErrLimit, h, e)
	h, e = g.t.Copy(g.t.Root, true)
	refused("Copy of the Document", api.ErrTree, h, e)
	h, e = g.t.Copy(-1, true)
	refused("Copy of nothing", api.ErrNone, h, e)
	g.t.Drop(single)
	h, e = g.t.Copy(list, true)
	refused("Copy of a list", api.ErrLimit, h, e)
	if _, e := g.t.Copy(list, false); e != api.OK {
		t.Errorf("Copy of an element returns the error %d", e)
	}
	g.t.Drop(copied)
	if _, e := g.t.Copy(list, true); e != api.OK || g.t.Nodes.Len() != api.MaxNodes || !g.t.Valid() {
		t.Errorf("the second copy returns the error %d", e)
	}
}

// P7.1: where Insert puts a node, and its records.
func TestInsert(t *testing.T) {
	for _, c := range []struct {
		node, before int // indices of children
		want         string
		from, to     [4]int // Prev and Next as indices, and Index of both records
	}{
		{0, 0, "ul(a b c)", [4]int{-1, 1, 0}, [4]int{-1, 1, 0}},
		{1, 1, "ul(a b c)", [4]int{0, 2, 1}, [4]int{0, 2, 1}},
		{2, 2, "ul(a b c)", [4]int{1, -1, 2}, [4]int{1, -1, 2}},
		{0, 1, "ul(a b c)", [4]int{-1, 1, 0}, [4]int{-1, 1, 0}},
		{0, 2, "ul(b a c)", [4]int{-1, 1, 0}, [4]int{1, 2, 1}},
		{0, -1, "ul(b c a)", [4]int{-1, 1, 0}, [4]int{2, -1, 2}},
		{1, 0, "ul(b a c)", [4]int{0, 2, 1}, [4]int{-1, 0, 0}},
		{1, 2, "ul(a b c)", [4]int{0, 2, 1}, [4]int{0, 2, 1}},
		{1, -1, "ul(a c b)", [4]int{0, 2, 1}, [4]int{2, -1, 2}},
		{2, 0, "ul(c a b)", [4]int{1, -1, 2}, [4]int{-1, 0, 0}},
		{2, 1, "ul(a c b)", [4]int{1, -1, 2}, [4]int{0, 1, 1}},
		{2, -1, "ul(a b c)", [4]int{1, -1, 2}, [4]int{1, -1, 2}},
	} {
		g := newGarden(t)
		kids := []api.Handle{g.element("a"), g.element("b"), g.element("c")}
		at := func(i int) api.Handle { return handleAt(kids, i) }
		parent := g.element("ul", kids...)
		record := func(kind int, place [4]int) tree.Record {
			return tree.Record{Kind: kind, Target: parent, Node: at(c.node), Prev: at(place[0]), Next: at(place[1]), Index: place[2]}
		}
		check(t, c.want, g.insert(parent, at(c.node), at(c.before)), []tree.Record{record(tree.Removed, c.from), record(tree.Inserted, c.to)})
		g.looks(parent, c.want)
	}
}

// P7.1: Insert of a detached node has one record; that of a node of another tree also takes it from there.
func TestInsertFromElsewhere(t *testing.T) {
	g := newGarden(t)
	a, b, c := g.text("a"), g.text("b"), g.comment("c")
	p, q := g.element("p"), g.element("q", c)
	check(t, "the first child", g.insert(p, b, 0), []tree.Record{{Kind: tree.Inserted, Target: p, Node: b}})
	check(t, "the second child", g.insert(p, a, b), []tree.Record{{Kind: tree.Inserted, Target: p, Node: a, Next: b}})
	g.insert(g.t.Root, p, 0)
	check(t, "the third child", g.insert(p, c, b), []tree.Record{
		{Kind: tree.Removed, Target: q, Node: c},
		{Kind: tree.Inserted, Target: p, Node: c, Prev: a, Next: b, Index: 1},
	})
	g.looks(g.t.Root, `#(p("a" !c "b"))`)
	g.looks(q, "q")
	check(t, "an element with its children", g.insert(q, p, 0), []tree.Record{
		{Kind: tree.Removed, Target: g.t.Root, Node: p},
		{Kind: tree.Inserted, Target: q, Node: p},
	})
	g.looks(q, `q(p("a" !c "b"))`)
	g.looks(g.t.Root, "#")
}

// P7.1: which kinds of nodes may be children of which, and that no node contains itself.
func TestInsertRefusesTree(t *testing.T) {
	g := newGarden(t)
	root := g.t.Root
	inner := g.element("b", g.text("x"))
	html := g.element("html", g.element("p", inner))
	g.insert(root, html, 0)
	other, words, note := g.element("q", g.element("r")), g.text("y"), g.comment("z")
	child := g.t.Kids(other)[0]
	for _, c := range []struct {
		what                 string
		parent, node, before api.Handle
	}{
		{"a Text in the Document", root, words, 0},
		{"a second element in the Document", root, other, 0},
		{"a second element ahead of the first", root, other, html},
		{"an element from within in the Document", root, inner, 0},
		{"the Document in an element", other, root, 0},
		{"the Document in the Document", root, root, 0},
		{"an element in itself", other, other, 0},
		{"an element in its child", child, other, 0},
		{"an element deep in itself", inner, html, 0},
		{"a node in a Text", words, note, 0},
		{"a Text in itself", words, words, 0},
		{"a node in a Comment", note, words, 0},
		{"a node ahead of one of another parent", other, words, inner},
		{"a node ahead of its parent's sibling", other, words, html},
		{"a node ahead of the parent", other, words, other},
		{"a node ahead of a detached one", other, words, note},
		{"a detached node ahead of itself", other, words, words},
		{"a node ahead of itself in another parent", html, child, child},
		{"a node ahead of itself, the last one, in another parent", other, inner, inner},
	} {
		g.refuses(c.what, api.ErrTree, func() ([]tree.Record, api.Errno) { return g.t.Insert(c.parent, c.node, c.before) })
	}
	g.insert(root, note, html)
	g.insert(root, g.comment("end"), 0)
	check(t, "the element of the Document moves", g.insert(root, html, note), []tree.Record{
		{Kind: tree.Removed, Target: root, Node: html, Prev: note, Next: g.t.Kids(root)[2], Index: 1},
		{Kind: tree.Inserted, Target: root, Node: html, Next: note},
	})
	g.looks(root, `#(html(p(b("x"))) !z !end)`)
	g.t.Remove(html)
	g.insert(root, other, note)
	g.looks(root, "#(q(r) !z !end)")
	g.refuses("the first element comes back", api.ErrTree, func() ([]tree.Record, api.Errno) { return g.t.Insert(root, html, 0) })
}

// P7.1: no node gets a greater depth than MaxDepth, in the document and in detached trees.
func TestLimitOfDepth(t *testing.T) {
	g := newGarden(t)
	outer, inner := g.chain(api.MaxDepth)
	leaf := g.text("x")
	refused := func(what string, parent, node api.Handle) {
		t.Helper()
		g.refuses(what, api.ErrLimit, func() ([]tree.Record, api.Errno) { return g.t.Insert(parent, node, 0) })
	}
	refused("one level more below", inner, leaf)
	refused("one level more above", g.element("p"), outer)
	refused("one level more with the Document", g.t.Root, outer)
	g.refuses("a wrong place that is too deep", api.ErrTree, func() ([]tree.Record, api.Errno) { return g.t.Insert(inner, outer, 0) })
	g.refuses("a wrong sibling that is too deep", api.ErrTree, func() ([]tree.Record, api.Errno) { return g.t.Insert(inner, leaf, outer) })
	up := g.t.Kids(outer)[0]
	g.t.Remove(up)
	g.insert(g.t.Root, up, 0)
	refused("a Text below the deepest", inner, leaf)
	wide := g.element("p", leaf, g.element("q", g.text("y")), g.text("z"))
	deep := inner
	for range 3 {
		refused("a tree of three levels", deep, wide)
		n, _ := g.t.Node(deep)
		deep = n.Parent
	}
	g.insert(deep, wide, 0)
	n, _ := g.t.Node(deep)
	g.insert(n.Parent, wide, 0)
	check(t, "a leaf as deep as possible", g.insert(g.t.Kids(wide)[1], leaf, 0), []tree.Record{
		{Kind: tree.Removed, Target: wide, Node: leaf, Next: g.t.Kids(wide)[0]},
		{Kind: tree.Inserted, Target: g.t.Kids(wide)[0], Node: leaf, Prev: g.t.Kids(g.t.Kids(wide)[0])[0], Index: 1},
	})
	if !g.t.Valid() {
		t.Error("the tree is not valid")
	}
}

// P7.1: Remove has one record if there is a parent, and leaves the node detached with its descendants.
func TestRemove(t *testing.T) {
	g := newGarden(t)
	a, b, c := g.text("a"), g.element("b", g.comment("x")), g.text("c")
	p := g.element("p", a, b, c)
	for _, step := range []struct {
		node api.Handle
		want []tree.Record
		left string
	}{
		{b, []tree.Record{{Kind: tree.Removed, Target: p, Node: b, Prev: a, Next: c, Index: 1}}, `p("a" "c")`},
		{b, nil, `p("a" "c")`},
		{c, []tree.Record{{Kind: tree.Removed, Target: p, Node: c, Prev: a, Index: 1}}, `p("a")`},
		{a, []tree.Record{{Kind: tree.Removed, Target: p, Node: a}}, "p"},
		{p, nil, "p"},
	} {
		records, e := g.t.Remove(step.node)
		if e != api.OK {
			t.Errorf("Remove returns the error %d", e)
		}
		check(t, "Remove", records, step.want)
		g.looks(p, step.left)
	}
	g.looks(b, "b(!x)")
	g.refuses("Remove of the Document", api.ErrTree, func() ([]tree.Record, api.Errno) { return g.t.Remove(g.t.Root) })
}

// P7.1: SetAttr keeps the place of an attribute and appends a new one; DropAttr keeps the order of the others; the records tell the old value.
func TestAttributes(t *testing.T) {
	g := newGarden(t)
	h := g.make(tree.Element, "p", "", api.Attr{Name: "a", Value: "1"}, api.Attr{Name: "b", Value: ""})
	set := func(name, value string) func() ([]tree.Record, api.Errno) {
		return func() ([]tree.Record, api.Errno) { return g.t.SetAttr(h, name, value) }
	}
	drop := func(name string) func() ([]tree.Record, api.Errno) {
		return func() ([]tree.Record, api.Errno) { return g.t.DropAttr(h, name) }
	}
	record := func(name, old string, had bool) []tree.Record {
		return []tree.Record{{Kind: tree.Attribute, Target: h, Name: name, Old: old, Had: had}}
	}
	for _, step := range []struct {
		call func() ([]tree.Record, api.Errno)
		want []tree.Record
		then string
	}{
		{set("a", "2"), record("a", "1", true), "p(a=2 b=)"},
		{set("a", "2"), record("a", "2", true), "p(a=2 b=)"},
		{set("b", "é\xFF"), record("b", "", true), "p(a=2 b=é\uFFFD)"},
		{set("c", ""), record("c", "", false), "p(a=2 b=é\uFFFD c=)"},
		{drop("a"), record("a", "2", true), "p(b=é\uFFFD c=)"},
		{drop("a"), nil, "p(b=é\uFFFD c=)"},
		{drop("A"), nil, "p(b=é\uFFFD c=)"},
		{set("a", "3"), record("a", "", false), "p(b=é\uFFFD c= a=3)"},
		{drop("c"), record("c", "", true), "p(b=é\uFFFD a=3)"},
		{drop("b"), record("b", "é\uFFFD", true), "p(a=3)"},
		{drop("a"), record("a", "3", true), "p"},
		{set("=", "x"), record("=", "", false), "p(==x)"},
	} {
		records, e := step.call()
		if e != api.OK {
			t.Errorf("the error %d on the way to %s", e, step.then)
		}
		check(t, step.then, records, step.want)
		g.looks(h, step.then)
	}
}

// P7.1: only elements have attributes, also if a tree that comes from outside says something else.
func TestAttributesOfOthers(t *testing.T) {
	g := newGarden(t)
	odd := g.text("c")
	g.t.Nodes.At(odd).Attrs = attributes(1)
	if value, ok := g.t.Attr(odd, "a0"); value != "" || ok {
		t.Errorf("Attr is %q, %v", value, ok)
	}
	for _, h := range []api.Handle{g.t.Root, g.text("a"), g.comment("b")} {
		g.refuses("SetAttr", api.ErrTree, func() ([]tree.Record, api.Errno) { return g.t.SetAttr(h, "a", "b") })
		g.refuses("SetAttr of a wrong name", api.ErrTree, func() ([]tree.Record, api.Errno) { return g.t.SetAttr(h, "", "b") })
		g.refuses("DropAttr", api.ErrTree, func() ([]tree.Record, api.Errno) { return g.t.DropAttr(h, "a") })
		if value, ok := g.t.Attr(h, "a"); value != "" || ok {
			t.Errorf("Attr is %q, %v", value, ok)
		}
	}
}

// P7.1: what Replace replaces, in code points, and its record.
func TestReplace(t *testing.T) {
	for _, c := range []struct {
		old          string
		index, count int
		s, want      string
		limited      int
		size         int
	}{
		{"abc", 0, 0, "x", "xabc", 0, 1},
		{"abc", 3, 0, "xy", "abcxy", 0, 2},
		{"abc", 3, 5, "xy", "abcxy", 0, 2},
		{"abc", 1, 1, "", "ac", 1, 0},
		{"abc", 0, 3, "", "", 3, 0},
		{"abc", 2, math.MaxInt, "é", "abé", 1, 1},
		{"abc", 1, math.MaxInt, "", "a", 2, 0},
		{"", 0, 0, "", "", 0, 0},
		{"", 0, 9, "€€", "€€", 0, 2},
		{"abc", 1, 0, "", "abc", 0, 0},
		{"a€\U0001F600é", 1, 2, "\xFF", "a\uFFFDé", 2, 1},
		{"a€\U0001F600é", 3, 1, "b", "a€\U0001F600b", 1, 1},
		{"a€\U0001F600é", 4, 1, "\xE2\x82", "a€\U0001F600é\uFFFD\uFFFD", 0, 2},
		{"a\xFFb", 1, 1, "\xE2", "a\uFFFDb", 1, 1},
		{"\xE2\x82", 1, 0, "\x82\xAC", "\uFFFD\uFFFD\uFFFD\uFFFD", 0, 2},
	} {
		for _, kind := range []int{tree.Text, tree.Comment} {
			g := newGarden(t)
			h := g.make(kind, "", c.old)
			before, _ := g.t.Node(h)
			records, e := g.t.Replace(h, c.index, c.count, c.s)
			if n, _ := g.t.Node(h); e != api.OK || n.Data != c.want || !g.t.Valid() {
				t.Errorf("Replace(%d, %d, %q) of %q is %q, %d", c.index, c.count, c.s, c.old, n.Data, e)
			}
			check(t, "Replace", records, []tree.Record{{Kind: tree.Data, Target: h, Index: c.index, Count: c.limited, Size: c.size, Old: before.Data}})
		}
	}
}

// P7.1: Replace refuses other nodes, and numbers that are out of range.
func TestReplaceRefuses(t *testing.T) {
	g := newGarden(t)
	long := strings.Repeat("x", api.MaxString+1)
	for _, c := range []struct {
		h            api.Handle
		index, count int
		want         api.Errno
	}{
		{g.t.Root, 0, 0, api.ErrTree},
		{g.element("p"), -1, -1, api.ErrTree},
		{g.text("aé"), 3, 0, api.ErrRange},
		{g.text("aé"), -1, 2, api.ErrRange},
		{g.text("aé"), 0, -1, api.ErrRange},
		{g.comment("aé"), math.MaxInt, math.MaxInt, api.ErrRange},
		{g.comment("aé"), math.MinInt, math.MinInt, api.ErrRange},
		{g.comment(""), 1, 0, api.ErrRange},
	} {
		for _, s := range []string{"x", long} {
			g.refuses("Replace", c.want, func() ([]tree.Record, api.Errno) { return g.t.Replace(c.h, c.index, c.count, s) })
		}
	}
}

// forest returns a tree with a document and detached nodes, and all its nodes, each tree in document order.
func forest(g garden) []api.Handle {
	g.insert(g.t.Root, g.comment("c"), 0)
	body := g.element("body", g.text("ab"), g.element("p", g.text("é"), g.comment("no")), g.text(""), g.element("q", g.element("b", g.text("d"))))
	g.insert(g.t.Root, g.element("html", g.element("head"), body), 0)
	g.insert(g.t.Root, g.comment("e"), 0)
	list := slices.Collect(g.t.Walk(g.t.Root))
	loose := g.element("i", g.text("f"))
	return append(list, loose, g.t.Kids(loose)[0], g.text("g"), g.comment("h"))
}

// P7.1: the functions that change nothing, on a document and detached nodes.
func TestQueries(t *testing.T) {
	g := newGarden(t)
	list := forest(g)
	g.looks(g.t.Root, `#(!c html(head body("ab" p("é" !no) "" q(b("d")))) !e)`)
	parents := []int{-1, 0, 0, 2, 2, 4, 4, 6, 6, 4, 4, 10, 11, 0, -1, 14, -1, -1}
	contents := []string{"abéd", "", "abéd", "", "abéd", "ab", "é", "é", "", "", "d", "d", "d", "", "f", "f", "g", ""}
	indices := []int{-1, 0, 1, 0, 1, 0, 1, 0, 1, 2, 3, 0, 0, 2, -1, 0, -1, -1}
	if len(list) != len(parents) {
		t.Fatalf("there are %d nodes", len(list))
	}
	within := func(a, b int) bool {
		for b >= 0 && b != a {
			b = parents[b]
		}
		return b == a
	}
	top := func(i int) int {
		for parents[i] >= 0 {
			i = parents[i]
		}
		return i
	}
	for i, a := range list {
		if g.t.Content(a) != contents[i] || g.t.Index(a) != indices[i] || g.t.Top(a) != list[top(i)] {
			t.Errorf("node %d: Content %q, Index %d, Top %d", i, g.t.Content(a), g.t.Index(a), g.t.Top(a))
		}
		var kids, walk []api.Handle
		for j, b := range list {
			if parents[j] == i {
				kids = append(kids, b)
			}
			if within(i, j) {
				walk = append(walk, b)
			}
			order, e := 0, api.ErrNone
			if top(i) == top(j) {
				order, e = min(max(i-j, -1), 1), api.OK
			}
			if got, err := g.t.Compare(a, b); got != order || err != e {
				t.Errorf("Compare of %d and %d is %d, %d", i, j, got, err)
			}
			if got := g.t.Contains(a, b); got != within(i, j) {
				t.Errorf("Contains of %d and %d is %v", i, j, got)
			}
		}
		if !slices.Equal(g.t.Kids(a), kids) || !slices.Equal(slices.Collect(g.t.Walk(a)), walk) {
			t.Errorf("node %d: Kids %v, Walk %v", i, g.t.Kids(a), slices.Collect(g.t.Walk(a)))
		}
	}
}

// P7.1: Walk stops when the loop is left, and begins again with each loop.
func TestWalkIsLeft(t *testing.T) {
	g := newGarden(t)
	list := forest(g)[:14]
	seq := g.t.Walk(g.t.Root)
	for size := 1; size <= len(list); size++ {
		var got []api.Handle
		seq(func(h api.Handle) bool {
			got = append(got, h)
			return len(got) < size
		})
		if !slices.Equal(got, list[:size]) {
			t.Errorf("a loop that is left after %d nodes gets %v", size, got)
		}
	}
}

// P7.1: handles that name no node.
func TestHandlesThatNameNothing(t *testing.T) {
	g := newGarden(t)
	p, dropped := g.element("p", g.text("a")), g.text("b")
	g.t.Drop(dropped)
	long := strings.Repeat("x", api.MaxString+1)
	for _, h := range []api.Handle{0, -1, 1, 11, dropped, dropped + 3, 1 << 40, math.MinInt, math.MaxInt} {
		if n, ok := g.t.Node(h); ok || n.Kind != 0 || n.Attrs != nil {
			t.Errorf("Node(%d) is %v, %v", h, n, ok)
		}
		if value, ok := g.t.Attr(h, "a"); value != "" || ok {
			t.Errorf("Attr(%d) is %q, %v", h, value, ok)
		}
		if len(g.t.Kids(h)) != 0 || g.t.Index(h) != -1 || g.t.Top(h) != 0 || g.t.Content(h) != "" || slices.Collect(g.t.Walk(h)) != nil {
			t.Errorf("there is something at %d", h)
		}
		if g.t.Contains(h, h) || g.t.Contains(p, h) || g.t.Contains(h, p) || tree.Same(g.t, h, g.t, h) || tree.Same(g.t, p, g.t, h) || tree.Same(g.t, h, g.t, p) {
			t.Errorf("%d contains something, is contained, or is the same", h)
		}
		for what, call := range map[string]func() ([]tree.Record, api.Errno){
			"Insert into it":         func() ([]tree.Record, api.Errno) { return g.t.Insert(h, p, 0) },
			"Insert of it":           func() ([]tree.Record, api.Errno) { return g.t.Insert(p, h, p) },
			"Remove":                 func() ([]tree.Record, api.Errno) { return g.t.Remove(h) },
			"SetAttr":                func() ([]tree.Record, api.Errno) { return g.t.SetAttr(h, "", long) },
			"DropAttr":               func() ([]tree.Record, api.Errno) { return g.t.DropAttr(h, "a") },
			"Replace":                func() ([]tree.Record, api.Errno) { return g.t.Replace(h, -1, -1, long) },
			"Copy":                   func() ([]tree.Record, api.Errno) { return handles(g.t.Copy(h, true)) },
			"a Copy that is shallow": func() ([]tree.Record, api.Errno) { return handles(g.t.Copy(h, false)) },
			"Drop":                   func() ([]tree.Record, api.Errno) { return nil, g.t.Drop(h) },
			"Compare with it":        func() ([]tree.Record, api.Errno) { return handles(g.t.Compare(p, h)) },
			"Compare of it":          func() ([]tree.Record, api.Errno) { return handles(g.t.Compare(h, p)) },
			"Compare with itself":    func() ([]tree.Record, api.Errno) { return handles(g.t.Compare(h, h)) },
		} {
			g.refuses(fmt.Sprintf("%s with %d", what, h), api.ErrNone, call)
		}
		if h != 0 {
			// The parent would be refused as well.
			g.refuses(fmt.Sprintf("Insert ahead of %d", h), api.ErrNone, func() ([]tree.Record, api.Errno) { return g.t.Insert(p, p, h) })
		}
	}
}

// P7.1: Copy makes a detached copy, with or without descendants, and leaves the original as it is.
func TestCopy(t *testing.T) {
	g := newGarden(t)
	list := forest(g)
	body := list[4]
	g.t.SetAttr(body, "b", "1")
	g.t.SetAttr(body, "a", "2")
	const inner = `body(b=1 a=2 "ab" p("é" !no) "" q(b("d")))`
	deep, e := g.t.Copy(body, true)
	if e != api.OK || g.t.Top(deep) != deep || !tree.Same(g.t, deep, g.t, body) {
		t.Errorf("the deep copy has the error %d", e)
	}
	g.looks(deep, inner)
	for within := range g.t.Walk(deep) {
		if slices.Contains(list, within) {
			t.Errorf("the copy contains the node %d of the original", within)
		}
	}
	shallow, e := g.t.Copy(body, false)
	if e != api.OK || g.t.Top(shallow) != shallow {
		t.Errorf("the shallow copy has the error %d", e)
	}
	g.looks(shallow, "body(b=1 a=2)")
	for i, want := range map[int]string{5: `"ab"`, 8: "!no", 14: `i("f")`, 17: "!h"} {
		h, _ := g.t.Copy(list[i], true)
		g.looks(h, want)
	}
	g.t.SetAttr(deep, "b", "3")
	g.t.Remove(g.t.Kids(deep)[0])
	g.looks(body, inner)
	g.t.DropAttr(body, "b")
	g.looks(shallow, "body(b=1 a=2)")
	for _, way := range []bool{true, false} {
		g.refuses("Copy of the Document", api.ErrTree, func() ([]tree.Record, api.Errno) { return handles(g.t.Copy(g.t.Root, way)) })
	}
}

// P7.1: Drop takes a detached node and its descendants from the arena, and nothing else.
func TestDrop(t *testing.T) {
	g := newGarden(t)
	list := forest(g)
	g.refuses("Drop of the Document", api.ErrState, func() ([]tree.Record, api.Errno) { return nil, g.t.Drop(g.t.Root) })
	for _, i := range []int{1, 2, 4, 5, 12, 15} {
		g.refuses("Drop of a child", api.ErrState, func() ([]tree.Record, api.Errno) { return nil, g.t.Drop(list[i]) })
	}
	for _, c := range []struct{ index, size int }{{17, 1}, {14, 2}, {4, 9}} {
		g.t.Remove(list[c.index])
		before := g.t.Nodes.Len()
		if e := g.t.Drop(list[c.index]); e != api.OK || g.t.Nodes.Len() != before-c.size {
			t.Errorf("Drop leaves %d of %d nodes, with the error %d", g.t.Nodes.Len(), before, e)
		}
	}
	g.looks(g.t.Root, "#(!c html(head) !e)")
	g.looks(list[16], `"g"`)
}

// P7.1: Same compares everything but handles.
func TestSame(t *testing.T) {
	makers := []func(g garden) api.Handle{
		func(g garden) api.Handle { return g.t.Root },
		func(g garden) api.Handle { g.insert(g.t.Root, g.comment(""), 0); return g.t.Root },
		func(g garden) api.Handle { g.insert(g.t.Root, g.element("p"), 0); return g.t.Root },
		func(g garden) api.Handle { return g.text("") },
		func(g garden) api.Handle { return g.text("a") },
		func(g garden) api.Handle { return g.comment("") },
		func(g garden) api.Handle { return g.comment("a") },
		func(g garden) api.Handle { return g.element("a") },
		func(g garden) api.Handle { return g.element("p") },
		func(g garden) api.Handle { return g.make(tree.Element, "p", "", attributes(1)...) },
		func(g garden) api.Handle { return g.make(tree.Element, "p", "", attributes(2)...) },
		func(g garden) api.Handle {
			list := attributes(2)
			slices.Reverse(list)
			return g.make(tree.Element, "p", "", list...)
		},
		func(g garden) api.Handle { return g.make(tree.Element, "p", "", api.Attr{Name: "a0"}) },
		func(g garden) api.Handle { return g.make(tree.Element, "p", "", api.Attr{Name: "a1", Value: "0"}) },
		func(g garden) api.Handle { return g.element("p", g.text("")) },
		func(g garden) api.Handle { return g.element("p", g.text("a")) },
		func(g garden) api.Handle { return g.element("p", g.text(""), g.text("")) },
		func(g garden) api.Handle { return g.element("p", g.text("a"), g.text("b")) },
		func(g garden) api.Handle { return g.element("p", g.text("b"), g.text("a")) },
		func(g garden) api.Handle { return g.element("p", g.text("a"), g.text("b"), g.text("c")) },
		func(g garden) api.Handle { return g.element("p", g.element("p"), g.element("p")) },
		func(g garden) api.Handle { return g.element("p", g.element("p", g.element("p"))) },
	}
	for i, a := range makers {
		for j, b := range makers {
			g, h := newGarden(t), garden{t, tree.New(api.Salt{Base: 1000, Stride: 7})}
			h.element("x")
			x, y := a(g), b(h)
			if got := tree.Same(g.t, x, h.t, y); got != (i == j) {
				t.Errorf("Same of %s and %s is %v", look(g.t, x), look(h.t, y), got)
			}
		}
	}
	g := newGarden(t)
	p := g.element("p", g.element("q", g.text("a")))
	if !tree.Same(g.t, p, g.t, p) || tree.Same(g.t, p, g.t, g.t.Kids(p)[0]) || !tree.Same(g.t, g.t.Root, g.t, g.t.Root) {
		t.Error("Same within one tree")
	}
	if tree.Same(nil, p, g.t, p) || tree.Same(g.t, p, nil, p) || tree.Same(nil, 0, nil, 0) {
		t.Error("Same without a tree")
	}
	other := tree.New(api.Salt{Base: 10, Stride: 3})
	if tree.Same(g.t, p, other, p) || tree.Same(other, p, g.t, p) {
		t.Error("Same with a handle that names nothing in the other tree")
	}
}

// P7.1: arguments are neither changed nor kept, and results are new memory.
func TestMemory(t *testing.T) {
	g := newGarden(t)
	space := make([]api.Attr, 2, 5)
	copy(space, []api.Attr{{Name: "a", Value: "\xFF"}, {Name: "b", Value: "2"}})
	h := g.make(tree.Element, "p", "", space...)
	g.t.SetAttr(h, "c", "3")
	if space[0].Value != "\xFF" || space[:3][2] != (api.Attr{}) {
		t.Errorf("Make changes its argument to %q", space[:5])
	}
	space[0], space[1] = api.Attr{Name: "x"}, api.Attr{Name: "y"}
	const want = "p(a=\uFFFD b=2 c=3)"
	g.looks(h, want)
	n, _ := g.t.Node(h)
	n.Attrs[0].Value, n.First = "new", h
	_ = append(n.Attrs[:1], api.Attr{Name: "z"})
	g.looks(h, want)
	// A copy of the tree that is made of the arena's Clone shares the attributes.
	for _, change := range []func(){
		func() { g.t.SetAttr(h, "a", "new") },
		func() { g.t.DropAttr(h, "b") },
		func() { g.t.SetAttr(h, "d", "new") },
	} {
		before := look(g.t, h)
		old := &tree.Tree{Nodes: g.t.Nodes.Clone(), Root: g.t.Root}
		change()
		if got := look(old, h); got != before {
			t.Errorf("the copy of the tree has become %s from %s", got, before)
		}
	}
	g.looks(h, "p(a=new c=3 d=new)")
	g.insert(h, g.text("x"), 0)
	kids := g.t.Kids(h)
	kids[0] = 99
	g.looks(h, `p(a=new c=3 d=new "x")`)
}

// P7.1: no function panics for a Tree that New did not make.
func TestZeroTree(t *testing.T) {
	var z tree.Tree
	if z.Valid() || tree.Same(&z, 0, &z, 0) || z.Top(z.Root) != 0 {
		t.Error("the zero Tree has a Document")
	}
	if _, e := z.Insert(0, 0, 0); e != api.ErrNone {
		t.Errorf("Insert returns the error %d", e)
	}
	p, _ := z.Make(tree.Element, "p", "", nil)
	x, _ := z.Make(tree.Text, "", "x", nil)
	if _, e := z.Insert(p, x, 0); e != api.OK || z.Content(p) != "x" || z.Valid() {
		t.Errorf("Insert returns the error %d", e)
	}
}

// P7.4: with any salt, the same calls give the same results, but for the handles, which are those of the same slots.
func TestSaltsDoNotMatter(t *testing.T) {
	results := func(salt api.Salt) string {
		g := garden{t, tree.New(salt)}
		list := forest(g)
		removed, _ := g.t.Remove(list[6])
		e := g.t.Drop(list[14])
		added := g.element("new", g.text("1"), g.text("2"))
		moved := g.insert(list[4], list[6], list[5])
		double, _ := g.t.Copy(list[2], true)
		var b strings.Builder
		slot := func(h api.Handle) int { return arena.Index(salt, h) }
		for _, r := range append(removed, moved...) {
			r.Target, r.Node, r.Prev, r.Next = slot(r.Target), slot(r.Node), slot(r.Prev), slot(r.Next)
			fmt.Fprintln(&b, r)
		}
		for h := range g.t.Nodes.All() {
			order, _ := g.t.Compare(h, list[5])
			fmt.Fprintln(&b, slot(h), look(g.t, h), g.t.Index(h), slot(g.t.Top(h)), g.t.Content(h), order)
		}
		fmt.Fprintln(&b, e, slot(added), slot(double), g.t.Valid())
		return b.String()
	}
	for _, salt := range salts {
		if got, want := results(salt), results(salts[0]); got != want {
			t.Errorf("with the salt %v, there is\n%s, not\n%s", salt, got, want)
		}
	}
}

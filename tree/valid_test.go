package tree_test

import (
	"fmt"
	"math"
	"slices"
	"strings"
	"testing"

	"knapsack/api"
	"knapsack/tree"
)

// damage is a change that makes a tree not valid, made to a node beside the functions of the package; which says for which nodes it is one.
type damage struct {
	what  string
	which func(n *tree.Node) bool
	do    func(n *tree.Node)
}

func isAny(*tree.Node) bool           { return true }
func isNoDocument(n *tree.Node) bool  { return n.Kind != tree.Document }
func isElement(n *tree.Node) bool     { return n.Kind == tree.Element }
func isWords(n *tree.Node) bool       { return n.Kind == tree.Text || n.Kind == tree.Comment }
func hasChildren(n *tree.Node) bool   { return n.First != 0 }
func hasAttributes(n *tree.Node) bool { return len(n.Attrs) > 0 }

func damages() []damage {
	var list []damage
	for _, kind := range []int{math.MinInt, -1, 0, 5, math.MaxInt} {
		list = append(list, damage{fmt.Sprint("the kind ", kind), isAny, func(n *tree.Node) { n.Kind = kind }})
	}
	list = append(list,
		damage{"a second Document", isNoDocument, func(n *tree.Node) { n.Kind = tree.Document }},
		damage{"a Text with children", hasChildren, func(n *tree.Node) { n.Kind = tree.Text }},
		damage{"a Comment with children", hasChildren, func(n *tree.Node) { n.Kind = tree.Comment }},
	)
	for name, valid := range names() {
		if !valid[0] {
			list = append(list, damage{fmt.Sprintf("the name %q", name), isElement, func(n *tree.Node) { n.Name = name }})
		}
		if !valid[1] {
			list = append(list, damage{fmt.Sprintf("an attribute with the name %q", name), hasAttributes, func(n *tree.Node) { n.Attrs[0].Name = name }})
		}
	}
	long := strings.Repeat("x", api.MaxString+1)
	repaired := strings.Repeat("\xFF", api.MaxString/3+1)
	return append(list,
		damage{"two equal names", hasAttributes, func(n *tree.Node) { n.Attrs = append(n.Attrs, n.Attrs[0]) }},
		damage{"a long value", hasAttributes, func(n *tree.Node) { n.Attrs[0].Value = long }},
		damage{"a value that is long if it is repaired", hasAttributes, func(n *tree.Node) { n.Attrs[0].Value = repaired }},
		damage{"many attributes", isElement, func(n *tree.Node) { n.Attrs = attributes(api.MaxAttrs + 1) }},
		damage{"long data", isWords, func(n *tree.Node) { n.Data = long }},
		damage{"data that are long if they are repaired", isWords, func(n *tree.Node) { n.Data = repaired }},
	)
}

// grown returns a tree with a document and detached nodes, and the handles of all.
func grown(t *testing.T) (*tree.Tree, []api.Handle) {
	g := newGarden(t)
	list := forest(g)
	g.make(tree.Element, "p", "", attributes(3)...)
	g.element("q", g.make(tree.Element, "p", "", attributes(1)...))
	list = nil
	for h := range g.t.Nodes.All() {
		list = append(list, h)
	}
	return g.t, list
}

// refusesDamage checks that a tree is not valid after a change, and valid as soon as it is taken back.
func refusesDamage(t *testing.T, tr *tree.Tree, what string, do func()) {
	t.Helper()
	var old []tree.Node
	var list []api.Handle
	for h := range tr.Nodes.All() {
		n, _ := tr.Node(h)
		old, list = append(old, n), append(list, h)
	}
	root := tr.Root
	do()
	if tr.Valid() {
		t.Errorf("a tree with %s is valid", what)
	}
	for i, h := range list {
		*tr.Nodes.At(h) = old[i]
	}
	tr.Root = root
	if !tr.Valid() {
		t.Fatalf("the tree is not valid without %s", what)
	}
}

// P7.1: Valid finds any link that leads to another node than it should.
func TestValidFindsEachLink(t *testing.T) {
	tr, list := grown(t)
	links := []struct {
		name string
		of   func(n *tree.Node) *api.Handle
	}{
		{"Parent", func(n *tree.Node) *api.Handle { return &n.Parent }},
		{"First", func(n *tree.Node) *api.Handle { return &n.First }},
		{"Last", func(n *tree.Node) *api.Handle { return &n.Last }},
		{"Prev", func(n *tree.Node) *api.Handle { return &n.Prev }},
		{"Next", func(n *tree.Node) *api.Handle { return &n.Next }},
	}
	targets := append([]api.Handle{0, -1, 1, 11, 1 << 40, math.MinInt, math.MaxInt}, list...)
	for _, h := range list {
		for _, link := range links {
			for _, target := range targets {
				if *link.of(tr.Nodes.At(h)) != target {
					refusesDamage(t, tr, fmt.Sprintf("the %s of %d at %d", link.name, h, target), func() { *link.of(tr.Nodes.At(h)) = target })
				}
			}
		}
	}
	for _, target := range targets {
		if target != tr.Root {
			refusesDamage(t, tr, fmt.Sprintf("the Root %d", target), func() { tr.Root = target })
		}
	}
}

// P7.1: Valid finds kinds, names and lengths that may not be, at any node.
func TestValidFindsEachDamage(t *testing.T) {
	tr, list := grown(t)
	for _, d := range damages() {
		done := 0
		for _, h := range list {
			if d.which(tr.Nodes.At(h)) {
				done++
				refusesDamage(t, tr, fmt.Sprintf("%s at %d", d.what, h), func() { d.do(tr.Nodes.At(h)) })
			}
		}
		if done == 0 {
			t.Errorf("no node has %s", d.what)
		}
	}
}

// connect makes nodes the children of a parent, whatever they are.
func connect(tr *tree.Tree, parent api.Handle, kids ...api.Handle) {
	p := tr.Nodes.At(parent)
	p.First, p.Last = 0, 0
	for i, kid := range kids {
		n := tr.Nodes.At(kid)
		n.Parent, n.Prev, n.Next = parent, handleAt(kids, i-1), handleAt(kids, i+1)
		p.First, p.Last = kids[0], kid
	}
}

// P7.1: Valid finds what is linked as it should be, but where it may not be; also rings, on which a search without end could run.
func TestValidFindsWrongPlaces(t *testing.T) {
	g := newGarden(t)
	a, b, c := g.element("a"), g.element("b"), g.element("c")
	x, y := g.text("x"), g.comment("y")
	root := g.t.Root
	for what, do := range map[string]func(){
		"a Text in the Document":          func() { connect(g.t, root, x) },
		"two elements in the Document":    func() { connect(g.t, root, a, y, b) },
		"a node in a Text":                func() { connect(g.t, x, y) },
		"an element in a Comment":         func() { connect(g.t, y, a) },
		"the Document in an element":      func() { connect(g.t, a, root) },
		"the Document in itself":          func() { connect(g.t, root, root) },
		"an element in itself":            func() { connect(g.t, a, b, a) },
		"two elements in each other":      func() { connect(g.t, a, x, b); connect(g.t, b, a, y) },
		"three elements in each other":    func() { connect(g.t, a, b); connect(g.t, b, c); connect(g.t, c, a) },
		"a node with two parents":         func() { connect(g.t, a, x); connect(g.t, b, x) },
		"a node twice":                    func() { connect(g.t, a, x, x) },
		"a node twice, with one between":  func() { connect(g.t, a, x, y, x) },
		"children that form a ring":       func() { connect(g.t, a, b, c); g.t.Nodes.At(c).Next, g.t.Nodes.At(b).Prev = b, c },
		"a ring with a beginning":         func() { connect(g.t, a, b, c); g.t.Nodes.At(c).Next = b },
		"siblings without a parent":       func() { g.t.Nodes.At(b).Next, g.t.Nodes.At(c).Prev = c, b },
		"a parent that is not theirs":     func() { connect(g.t, a, b, c); g.t.Nodes.At(a).First, g.t.Nodes.At(a).Last = 0, 0 },
		"a ring that hangs on a parent":   func() { ring(g.t, a, b, c) },
		"a ring of one":                   func() { ring(g.t, a, b) },
		"a ring beside the true children": func() { connect(g.t, a, x, y); ring(g.t, a, b, c) },
		"no Document":                     func() { g.t.Nodes.At(root).Kind = tree.Element; g.t.Nodes.At(root).Name = "r" },
		"a Root that is an element":       func() { g.t.Root = a },
		"a Root that is another Document": func() { g.t.Root, g.t.Nodes.At(a).Kind = a, tree.Document },
	} {
		refusesDamage(t, g.t, what, do)
	}
	connect(g.t, root, y, a)
	connect(g.t, a, x, b)
	if !g.t.Valid() {
		t.Error("a tree that is linked by hand is not valid")
	}
}

// ring makes nodes siblings of each other, whose Parent does not lead to them.
func ring(tr *tree.Tree, parent api.Handle, kids ...api.Handle) {
	for i, kid := range kids {
		n := tr.Nodes.At(kid)
		n.Parent, n.Prev, n.Next = parent, kids[(i+len(kids)-1)%len(kids)], kids[(i+1)%len(kids)]
	}
}

// P7.1: Valid finds a node that is too deep, in the document and beside it.
func TestValidFindsDepth(t *testing.T) {
	g := newGarden(t)
	outer, inner := g.chain(api.MaxDepth)
	top, leaf := g.element("p"), g.text("x")
	refusesDamage(t, g.t, "a deep element", func() { connect(g.t, top, outer) })
	refusesDamage(t, g.t, "a deep Text", func() { connect(g.t, inner, leaf) })
	refusesDamage(t, g.t, "a deep document", func() { connect(g.t, g.t.Root, outer) })
}

// P7.1: Valid finds that there are too many nodes.
func TestValidFindsNumber(t *testing.T) {
	g := newGarden(t)
	for g.t.Nodes.Len() < api.MaxNodes {
		g.text("")
	}
	if !g.t.Valid() {
		t.Error("a full tree is not valid")
	}
	h := g.t.Nodes.Add(tree.Node{Kind: tree.Text})
	if g.t.Valid() {
		t.Error("a tree with one node more is valid")
	}
	g.t.Drop(h)
	if !g.t.Valid() {
		t.Error("the tree is not valid any more")
	}
}

// P7.1: Valid ends for trees whose links lead anywhere, and the answer is true only if the children of all nodes lead to all nodes.
func TestValidEndsForAllLinks(t *testing.T) {
	next := random()
	valid := 0
	for range 20000 {
		g := newGarden(t)
		handles := []api.Handle{g.t.Root, g.element("a"), g.element("b"), g.text("c")}
		some := func() api.Handle { return append([]api.Handle{0, 0, 0, 0, 0}, handles...)[next(5+len(handles))] }
		for range next(8) {
			n := g.t.Nodes.At(handles[next(len(handles))])
			switch next(7) {
			case 0:
				connect(g.t, handles[next(len(handles))], handles[next(len(handles))])
			case 1:
				n.Parent = some()
			case 2:
				n.First = some()
			case 3:
				n.Last = some()
			case 4:
				n.Prev = some()
			case 5:
				n.Next = some()
			case 6:
				n.First, n.Last = 0, 0
			}
		}
		if g.t.Valid() {
			valid++
			var reached []api.Handle
			for _, h := range handles {
				if g.t.Index(h) < 0 {
					reached = append(reached, slices.Collect(g.t.Walk(h))...)
				}
			}
			if slices.Sort(reached); !slices.Equal(reached, handles) {
				t.Fatalf("a valid tree has the nodes %v", reached)
			}
		}
	}
	if valid < 1000 {
		t.Errorf("only %d trees are valid", valid)
	}
}

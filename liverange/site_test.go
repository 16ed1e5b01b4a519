package liverange_test

import (
	"fmt"
	"strings"
	"testing"

	"knapsack/api"
	"knapsack/liverange"
	"knapsack/tree"
)

// salts have numbers within the range from 1 to 1000, at its ends, and outside of it.
var salts = []api.Salt{{}, {Base: 10, Stride: 3}, {Base: 1000, Stride: 1000}, {Base: -5, Stride: 5000}}

// random returns a function whose results are those of a fixed sequence, each reduced to less than its argument.
func random() func(below int) int {
	state := uint64(1)
	return func(below int) int {
		state = state*6364136223846793005 + 1442695040888963407
		return int(state>>33) % below
	}
}

// site is a tree with a set, of which the range with the number 1 is shown.
//
// A test writes p('a[b' b 'c' ] {d}) for an element p with a text, an element b, a text and a comment, and a range from within the first text to the place behind the second one; # is the document.
type site struct {
	*testing.T
	t *tree.Tree
	s liverange.Set
}

// newSite returns a site with the given node, which stays detached unless it is the document, and with the range, if there is one in it.
func newSite(t *testing.T, salt api.Salt, words string) *site {
	t.Helper()
	x := &site{T: t, t: tree.New(salt)}
	x.plant(words)
	return x
}

// plant makes a node with all that it contains, and the range, if there is one.
func (x *site) plant(words string) api.Handle {
	x.Helper()
	r := reader{site: x, rest: words}
	h := r.node()
	if r.rest != "" {
		x.Fatalf("%q is left of %q", r.rest, words)
	}
	if r.start.Node != 0 {
		id, e := x.s.Create(x.t, r.start)
		x.fine("Create", e)
		x.fine("SetEnd", x.s.SetEnd(x.t, id, r.end))
	}
	return h
}

// reader reads what a test writes.
type reader struct {
	*site
	rest       string
	start, end liverange.Point
}

// node reads a node.
func (r *reader) node() api.Handle {
	r.Helper()
	switch r.rest[0] {
	case '\'':
		return r.data(tree.Text, "'")
	case '{':
		return r.data(tree.Comment, "}")
	}
	size := strings.IndexAny(r.rest+" ", "( )")
	name := r.rest[:size]
	r.rest = r.rest[size:]
	h := r.t.Root
	if name != "#" {
		h = r.make(tree.Element, name, "")
	}
	if strings.HasPrefix(r.rest, "(") {
		r.rest = r.rest[1:]
		r.kids(h)
	}
	return h
}

// kids reads the children of a node, and the bracket behind them.
func (r *reader) kids(h api.Handle) {
	r.Helper()
	for {
		r.rest = strings.TrimLeft(r.rest, " ")
		at := liverange.Point{Node: h, Index: len(r.t.Kids(h))}
		switch r.rest[0] {
		case ')':
			r.rest = r.rest[1:]
			return
		case '[', ']':
			r.mark(at)
		default:
			r.insert(h, r.node(), 0)
		}
	}
}

// mark reads a boundary of the range.
func (r *reader) mark(at liverange.Point) {
	if r.rest[0] == '[' {
		r.start = at
	} else {
		r.end = at
	}
	r.rest = r.rest[1:]
}

// data reads a node with data.
func (r *reader) data(kind int, stop string) api.Handle {
	r.Helper()
	h := r.make(kind, "", "")
	data := []rune{}
	for r.rest = r.rest[1:]; !strings.HasPrefix(r.rest, stop); {
		if r.rest[0] == '[' || r.rest[0] == ']' {
			r.mark(liverange.Point{Node: h, Index: len(data)})
			continue
		}
		letter := []rune(r.rest)[0]
		data = append(data, letter)
		r.rest = r.rest[len(string(letter)):]
	}
	r.rest = r.rest[1:]
	r.replace(h, 0, 0, string(data))
	return h
}

func (x *site) fine(what string, e api.Errno) {
	x.Helper()
	if e != api.OK {
		x.Fatalf("%s returns the error %d", what, e)
	}
}

func (x *site) make(kind int, name, data string) api.Handle {
	x.Helper()
	h, e := x.t.Make(kind, name, data, nil)
	x.fine("Make", e)
	return h
}

func (x *site) insert(parent, node, before api.Handle) []tree.Record {
	x.Helper()
	records, e := x.t.Insert(parent, node, before)
	x.fine("Insert", e)
	return records
}

func (x *site) remove(node api.Handle) []tree.Record {
	x.Helper()
	records, e := x.t.Remove(node)
	x.fine("Remove", e)
	return records
}

func (x *site) replace(node api.Handle, index, count int, s string) []tree.Record {
	x.Helper()
	records, e := x.t.Replace(node, index, count, s)
	x.fine("Replace", e)
	return records
}

// at returns the first node that is an element with that name, or has that data.
func (x *site) at(word string) api.Handle {
	x.Helper()
	for h, n := range x.t.Nodes.All() {
		if n.Kind == tree.Element && n.Name == word || n.Kind > tree.Element && n.Data == word {
			return h
		}
	}
	x.Fatalf("there is no %q", word)
	return 0
}

// point returns a point within the node that at finds.
func (x *site) point(word string, index int) liverange.Point {
	x.Helper()
	return liverange.Point{Node: x.at(word), Index: index}
}

// get returns the range with the number 1.
func (x *site) get() liverange.Range {
	x.Helper()
	r, e := x.s.Range(1)
	x.fine("Range", e)
	return r
}

// looks checks the tree that contains the start of the range, with the range, and whether the set is valid.
func (x *site) looks(what, want string) {
	x.Helper()
	r := x.get()
	if got := x.show(x.t.Top(r.Start.Node), r); got != want {
		x.Errorf("after %s there is %s, not %s", what, got, want)
	}
	if !x.t.Valid() || !x.s.Valid(x.t) {
		x.Errorf("after %s the tree or the set %+v is not valid", what, x.s)
	}
}

// show writes a node with what it contains, and a range.
func (x *site) show(h api.Handle, r liverange.Range) string {
	n, _ := x.t.Node(h)
	marks := func(i int) string {
		s := ""
		if r.Start == (liverange.Point{Node: h, Index: i}) {
			s = "["
		}
		if r.End == (liverange.Point{Node: h, Index: i}) {
			s += "]"
		}
		return s
	}
	if n.Kind == tree.Text || n.Kind == tree.Comment {
		s := marks(0)
		for i, letter := range []rune(n.Data) {
			s += string(letter) + marks(i+1)
		}
		if n.Kind == tree.Text {
			return "'" + s + "'"
		}
		return "{" + s + "}"
	}
	parts := strings.Fields(marks(0))
	for i, kid := range x.t.Kids(h) {
		parts = append(parts, x.show(kid, r))
		parts = append(parts, strings.Fields(marks(i+1))...)
	}
	if n.Kind == tree.Document {
		n.Name = "#"
	}
	if len(parts) == 0 {
		return n.Name
	}
	return n.Name + "(" + strings.Join(parts, " ") + ")"
}

// state writes all of the tree and the set.
func (x *site) state() string { return fmt.Sprintf("%+v %+v", *x.t, x.s) }

// stays checks that a call changes neither the tree nor the set.
func (x *site) stays(what string, call func()) {
	x.Helper()
	before := x.state()
	call()
	if after := x.state(); after != before {
		x.Errorf("%s changes\n%s\nto\n%s", what, before, after)
	}
}

// is checks an error.
func (x *site) is(what string, got, want api.Errno) {
	x.Helper()
	if got != want {
		x.Errorf("%s returns the error %d, not %d", what, got, want)
	}
}

package treebuild_test

import (
	"slices"
	"strings"
	"testing"

	"knapsack/api"
	"knapsack/text"
	"knapsack/tree"
	"knapsack/treebuild"
)

// shadow is a tree as it is known from records alone, but for new data and new values, which they do not contain.
type shadow struct {
	*testing.T
	t     *tree.Tree
	kids  map[api.Handle][]api.Handle
	nodes map[api.Handle]tree.Node
}

// newShadow returns the shadow of all nodes of a tree.
func newShadow(t *testing.T, x *tree.Tree) *shadow {
	s := &shadow{t, x, map[api.Handle][]api.Handle{}, map[api.Handle]tree.Node{}}
	for h := range x.Nodes.All() {
		s.nodes[h], _ = x.Node(h)
		s.kids[h] = x.Kids(h)
	}
	return s
}

// sibling returns the element of a list with that index, 0 if there is none.
func sibling(list []api.Handle, index int) api.Handle {
	if index < 0 || index >= len(list) {
		return 0
	}
	return list[index]
}

// apply changes the shadow as records say, which were returned together.
func (s *shadow) apply(records []tree.Record) {
	s.Helper()
	for i, r := range records {
		kids := s.kids[r.Target]
		switch r.Kind {
		case tree.Inserted:
			if _, known := s.nodes[r.Node]; !known {
				s.nodes[r.Node] = s.inserted(r.Node, records[i:])
			}
			if r.Index < 0 || r.Index > len(kids) || sibling(kids, r.Index-1) != r.Prev || sibling(kids, r.Index) != r.Next {
				s.Fatalf("%+v does not fit to the children %v", r, kids)
			}
			s.kids[r.Target] = slices.Insert(slices.Clone(kids), r.Index, r.Node)
		case tree.Removed:
			if sibling(kids, r.Index) != r.Node || sibling(kids, r.Index-1) != r.Prev || sibling(kids, r.Index+1) != r.Next {
				s.Fatalf("%+v does not fit to the children %v", r, kids)
			}
			s.kids[r.Target] = slices.Delete(slices.Clone(kids), r.Index, r.Index+1)
		case tree.Attribute, tree.Data:
			s.change(r)
		default:
			s.Fatalf("there is no kind %d of records", r.Kind)
		}
	}
}

// inserted returns a new node as it was when it was inserted, which the later records tell.
func (s *shadow) inserted(h api.Handle, later []tree.Record) tree.Node {
	n, _ := s.t.Node(h)
	i := slices.IndexFunc(later, func(r tree.Record) bool { return r.Kind == tree.Data && r.Target == h })
	if i >= 0 {
		n.Data = later[i].Old
	}
	return n
}

// change adds the attribute, or the data at the end, of which a record tells: construction changes nothing else of a node.
func (s *shadow) change(r tree.Record) {
	s.Helper()
	now, _ := s.t.Node(r.Target)
	known := s.nodes[r.Target]
	if r.Kind == tree.Attribute {
		value, ok := s.t.Attr(r.Target, r.Name)
		if r.Had || r.Old != "" || !ok || slices.ContainsFunc(known.Attrs, func(a api.Attr) bool { return a.Name == r.Name }) {
			s.Fatalf("%+v does not fit to the attributes %v", r, known.Attrs)
		}
		known.Attrs = append(slices.Clone(known.Attrs), api.Attr{Name: r.Name, Value: value})
	} else {
		if r.Old != known.Data || r.Index != text.Len(known.Data) || r.Count != 0 || r.Size == 0 || !strings.HasPrefix(now.Data, known.Data) {
			s.Fatalf("%+v does not fit to the data %q, in the end %q", r, known.Data, now.Data)
		}
		known.Data = text.Slice(now.Data, 0, r.Index+r.Size)
	}
	s.nodes[r.Target] = known
}

// check compares the shadow with the tree.
func (s *shadow) check(what string) {
	s.Helper()
	for h := range s.t.Nodes.All() {
		known, ok := s.nodes[h]
		n, _ := s.t.Node(h)
		if !ok || known.Kind != n.Kind || known.Name != n.Name || known.Data != n.Data || !slices.Equal(known.Attrs, n.Attrs) {
			s.Fatalf("after %s, the records tell of %+v, and not of %+v", what, known, n)
		}
		if !slices.Equal(s.kids[h], s.t.Kids(h)) {
			s.Fatalf("after %s, the records tell of the children %v, and not of %v", what, s.kids[h], s.t.Kids(h))
		}
	}
	if len(s.nodes) != s.t.Nodes.Len() {
		s.Fatalf("after %s, the records tell of %d nodes, and not of %d", what, len(s.nodes), s.t.Nodes.Len())
	}
}

func TestRecordsOfSteps(t *testing.T) {
	next := random()
	for range 1500 {
		s := randomDocument(next, 40)
		var b treebuild.Builder
		x := tree.New(api.Salt{})
		known := newShadow(t, x)
		b.Feed(s)
		b.Finish()
		for !b.Done {
			known.apply(b.Step(x).Records)
			known.check(s)
		}
	}
}

func TestRecordsOfFragments(t *testing.T) {
	next := random()
	for range 1500 {
		x := treebuild.Build(randomDocument(next, 20), api.Salt{})
		for range 3 {
			known := newShadow(t, x)
			parent := randomElement(x, next)
			s := randomDocument(next, 20)
			records, e := treebuild.Fragment(x, parent, s)
			if e != api.OK {
				t.Fatalf("Fragment(%q) returns the error %d", s, e)
			}
			known.apply(records)
			known.check(s)
			if !x.Valid() {
				t.Fatalf("after Fragment(%q) the tree is not valid", s)
			}
		}
	}
}

// randomElement returns an element of a tree.
func randomElement(x *tree.Tree, next func(below int) int) api.Handle {
	var elements []api.Handle
	for h, n := range x.Nodes.All() {
		if n.Kind == tree.Element {
			elements = append(elements, h)
		}
	}
	return elements[next(len(elements))]
}

func TestRecords(t *testing.T) {
	s := newSite(t)
	record := func(text string, want ...tree.Record) {
		t.Helper()
		var got []tree.Record
		for _, event := range s.feed(text) {
			got = append(got, event.Records...)
		}
		if !slices.Equal(got, want) {
			t.Errorf("the records of %q are %+v, not %+v", text, got, want)
		}
	}
	// The handles are 10 for the document, then 13, 16, ..
	record("<!doctype a></x> ")
	record("<!--a-->", tree.Record{Kind: tree.Inserted, Target: 10, Node: 13})
	record("<html b=c>", tree.Record{Kind: tree.Inserted, Target: 10, Node: 16, Prev: 13, Index: 1})
	record("<html b=d e=f>", tree.Record{Kind: tree.Attribute, Target: 16, Name: "e"})
	record("<p>",
		tree.Record{Kind: tree.Inserted, Target: 16, Node: 19},
		tree.Record{Kind: tree.Inserted, Target: 16, Node: 22, Prev: 19, Index: 1},
		tree.Record{Kind: tree.Inserted, Target: 22, Node: 25})
	record("é</x>a</x>",
		tree.Record{Kind: tree.Inserted, Target: 25, Node: 28},
		tree.Record{Kind: tree.Data, Target: 28, Index: 1, Old: "é", Size: 1})
	record("<table><td>",
		tree.Record{Kind: tree.Inserted, Target: 22, Node: 31, Prev: 25, Index: 1},
		tree.Record{Kind: tree.Inserted, Target: 31, Node: 34},
		tree.Record{Kind: tree.Inserted, Target: 34, Node: 37},
		tree.Record{Kind: tree.Inserted, Target: 37, Node: 40})
	record("</td><br>", tree.Record{Kind: tree.Inserted, Target: 22, Node: 43, Prev: 25, Next: 31, Index: 1})
}

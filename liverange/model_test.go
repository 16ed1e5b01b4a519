package liverange_test

import (
	"cmp"
	"fmt"
	"slices"
	"strings"
	"testing"

	"knapsack/api"
	"knapsack/liverange"
	"knapsack/tree"
	"knapsack/treebuild"
)

// places returns all valid points within a node, in the order of the document: those ahead of a child, those within it, and those behind it.
func places(t *tree.Tree, h api.Handle) []liverange.Point {
	n, _ := t.Node(h)
	kids := t.Kids(h)
	list := []liverange.Point{{Node: h}}
	for i, kid := range kids {
		list = append(list, places(t, kid)...)
		list = append(list, liverange.Point{Node: h, Index: i + 1})
	}
	for i := range []rune(n.Data) {
		list = append(list, liverange.Point{Node: h, Index: i + 1})
	}
	return list
}

// model is what a set should be: it lives in a tree of its own, in which each call of the set's tree is made in smaller ones, so that it sees the tree ahead of every record.
type model struct {
	t *tree.Tree
	s liverange.Set
}

// all returns the points of the tree to which a node belongs.
func (m *model) all(h api.Handle) []liverange.Point { return places(m.t, m.t.Top(h)) }

// valid returns ErrNone or ErrRange if a point is not valid.
func (m *model) valid(at liverange.Point) api.Errno {
	if _, ok := m.t.Node(at.Node); !ok {
		return api.ErrNone
	}
	if !slices.Contains(m.all(at.Node), at) {
		return api.ErrRange
	}
	return api.OK
}

func (m *model) compare(a, b liverange.Point) (int, api.Errno) {
	if m.valid(a) != api.OK || m.valid(b) != api.OK {
		return 0, api.ErrRange
	}
	list := m.all(a.Node)
	if !slices.Contains(list, b) {
		return 0, api.ErrNone
	}
	return cmp.Compare(slices.Index(list, a), slices.Index(list, b)), api.OK
}

// get returns a pointer to the range with a number, nil if there is none.
func (m *model) get(id int) *liverange.Range {
	for i := range m.s.Ranges {
		if m.s.Ranges[i].Id == id {
			return &m.s.Ranges[i]
		}
	}
	return nil
}

func (m *model) create(at liverange.Point) (int, api.Errno) {
	if e := m.valid(at); e != api.OK {
		return 0, e
	}
	m.s.Last++
	m.s.Ranges = append(m.s.Ranges, liverange.Range{Id: m.s.Last, Start: at, End: at})
	return m.s.Last, api.OK
}

// set moves the start or the end.
func (m *model) set(id int, at liverange.Point, isStart bool) api.Errno {
	r := m.get(id)
	if r == nil {
		return api.ErrNone
	}
	if e := m.valid(at); e != api.OK {
		return e
	}
	if isStart {
		r.Start = at
	} else {
		r.End = at
	}
	if c, e := m.compare(r.Start, r.End); e != api.OK || c > 0 {
		r.Start, r.End = at, at
	}
	return api.OK
}

func (m *model) drop(id int) api.Errno {
	before := len(m.s.Ranges) + len(m.s.Iterators)
	m.s.Ranges = slices.DeleteFunc(m.s.Ranges, func(r liverange.Range) bool { return r.Id == id })
	m.s.Iterators = slices.DeleteFunc(m.s.Iterators, func(it liverange.Iterator) bool { return it.Id == id })
	if len(m.s.Ranges)+len(m.s.Iterators) == before {
		return api.ErrNone
	}
	return api.OK
}

func (m *model) iterate(root api.Handle) (int, api.Errno) {
	if _, ok := m.t.Node(root); !ok {
		return 0, api.ErrNone
	}
	m.s.Last++
	m.s.Iterators = append(m.s.Iterators, liverange.Iterator{Id: m.s.Last, Root: root, Ref: root, Before: true})
	return m.s.Last, api.OK
}

// pass moves an iterator, which stands in a gap between two neighbours in the list of all nodes within its root.
func (m *model) pass(id, steps int) (api.Handle, api.Errno) {
	for i, it := range m.s.Iterators {
		if it.Id != id {
			continue
		}
		list := slices.Collect(m.t.Walk(it.Root))
		gap := slices.Index(list, it.Ref)
		if !it.Before {
			gap++
		}
		if gap+steps < 0 || gap+steps > len(list) {
			return 0, api.OK
		}
		it.Ref, it.Before = list[min(gap, gap+steps)], steps < 0
		m.s.Iterators[i] = it
		return it.Ref, api.OK
	}
	return 0, api.ErrNone
}

// text returns the text of a range: the code points that lie between two neighbouring points within it.
func (m *model) text(id int) (string, api.Errno) {
	r := m.get(id)
	if r == nil {
		return "", api.ErrNone
	}
	list := m.all(r.Start.Node)
	list = list[slices.Index(list, r.Start) : slices.Index(list, r.End)+1]
	var b strings.Builder
	for i := range len(list) - 1 {
		n, _ := m.t.Node(list[i].Node)
		if n.Kind == tree.Text && list[i].Node == list[i+1].Node {
			b.WriteRune([]rune(n.Data)[list[i].Index])
		}
	}
	return b.String(), api.OK
}

// within returns the nodes for which the points on both sides are within a range, in the order of the document.
func (m *model) within(r liverange.Range) []api.Handle {
	list := m.all(r.Start.Node)
	from, to := slices.Index(list, r.Start), slices.Index(list, r.End)
	var nodes []api.Handle
	for h := range m.t.Walk(m.t.Top(r.Start.Node)) {
		n, _ := m.t.Node(h)
		ahead := slices.Index(list, liverange.Point{Node: n.Parent, Index: m.t.Index(h)})
		behind := slices.Index(list, liverange.Point{Node: n.Parent, Index: m.t.Index(h) + 1})
		if n.Parent != 0 && from <= ahead && behind <= to {
			nodes = append(nodes, h)
		}
	}
	return nodes
}

// up returns a node and its ancestors.
func (m *model) up(h api.Handle) []api.Handle {
	var list []api.Handle
	for h != 0 {
		list = append(list, h)
		n, _ := m.t.Node(h)
		h = n.Parent
	}
	return list
}

// delete is Delete by the words of the document.
func (m *model) delete(id int) ([]tree.Record, api.Errno) {
	if m.get(id) == nil {
		return nil, api.ErrNone
	}
	r := *m.get(id)
	nodes := m.within(r)
	start, _ := m.t.Node(r.Start.Node)
	end, _ := m.t.Node(r.End.Node)
	var records []tree.Record
	if start.Kind >= tree.Text {
		to := len([]rune(start.Data))
		if r.End.Node == r.Start.Node {
			to = r.End.Index
		}
		records = append(records, m.replace(r.Start.Node, r.Start.Index, to-r.Start.Index)...)
	}
	for _, h := range nodes {
		n, _ := m.t.Node(h)
		if !slices.Contains(nodes, n.Parent) {
			records = append(records, m.remove(h)...)
		}
	}
	if end.Kind >= tree.Text && r.End.Node != r.Start.Node {
		records = append(records, m.replace(r.End.Node, 0, r.End.Index)...)
	}
	left := r.Start
	if !slices.Contains(m.up(r.End.Node), r.Start.Node) {
		for _, h := range m.up(r.Start.Node) {
			n, _ := m.t.Node(h)
			if !slices.Contains(m.up(r.End.Node), h) {
				left = liverange.Point{Node: n.Parent, Index: m.t.Index(h) + 1}
			}
		}
	}
	m.get(id).Start, m.get(id).End = left, left
	return records, api.OK
}

// replace removes code points, if there are any.
func (m *model) replace(h api.Handle, index, count int) []tree.Record {
	if count == 0 {
		return nil
	}
	return m.change(h, index, count, "")
}

// change replaces code points: a point behind them keeps its distance from the end, and one among them goes to their beginning.
func (m *model) change(h api.Handle, index, count int, s string) []tree.Record {
	n, _ := m.t.Node(h)
	before := len([]rune(n.Data))
	records, e := m.t.Replace(h, index, count, s)
	if e != api.OK {
		return nil
	}
	n, _ = m.t.Node(h)
	after := len([]rune(n.Data))
	m.points(func(p *liverange.Point) {
		if p.Node != h || p.Index <= index {
			return
		}
		if p.Index-index > count {
			p.Index = after - (before - p.Index)
		} else {
			p.Index = index
		}
	})
	return records
}

func (m *model) points(visit func(p *liverange.Point)) {
	for i := range m.s.Ranges {
		visit(&m.s.Ranges[i].Start)
		visit(&m.s.Ranges[i].End)
	}
}

// keep calls a function that changes the children of nodes: a point stays directly behind the child that it followed, or, if that is gone, the one before.
func (m *model) keep(call func() []tree.Record) []tree.Record {
	ahead := map[liverange.Point][]api.Handle{}
	m.points(func(p *liverange.Point) {
		if n, _ := m.t.Node(p.Node); n.Kind < tree.Text {
			ahead[*p] = m.t.Kids(p.Node)[:p.Index]
		}
	})
	records := call()
	m.points(func(p *liverange.Point) {
		kids, isAmongKids := ahead[*p]
		if !isAmongKids {
			return
		}
		node := p.Node
		*p = liverange.Point{Node: node}
		for _, kid := range kids {
			if n, _ := m.t.Node(kid); n.Parent == node {
				p.Index = m.t.Index(kid) + 1
			}
		}
	})
	return records
}

// remove removes a node: points within it go to its place, and iterators to the node that came before it.
func (m *model) remove(h api.Handle) []tree.Record {
	n, _ := m.t.Node(h)
	if n.Parent == 0 {
		return nil
	}
	inside := slices.Collect(m.t.Walk(h))
	order := slices.Collect(m.t.Walk(m.t.Top(h)))
	place := liverange.Point{Node: n.Parent, Index: m.t.Index(h)}
	m.points(func(p *liverange.Point) {
		if slices.Contains(inside, p.Node) {
			*p = place
		}
	})
	for i, it := range m.s.Iterators {
		if slices.Contains(inside, it.Ref) && !slices.Contains(inside, it.Root) {
			it.Ref, it.Before = order[slices.Index(order, h)-1], false
			m.s.Iterators[i] = it
		}
	}
	return m.keep(func() []tree.Record {
		records, _ := m.t.Remove(h)
		return records
	})
}

// insert inserts a node that may be inserted there.
func (m *model) insert(parent, h, before api.Handle) {
	if before == h {
		n, _ := m.t.Node(h)
		before = n.Next
	}
	m.remove(h)
	m.keep(func() []tree.Record {
		records, _ := m.t.Insert(parent, h, before)
		return records
	})
}

// fragment puts a fragment in place of the children of an element. If this is a part of a table, some of it may be put elsewhere.
func (m *model) fragment(parent api.Handle, s string) {
	for _, kid := range m.t.Kids(parent) {
		m.remove(kid)
	}
	m.keep(func() []tree.Record {
		records, _ := treebuild.Fragment(m.t, parent, s)
		return records
	})
}

// life is a tree with its set, and the model, with whatever happens to them.
type life struct {
	*testing.T
	t    *tree.Tree
	s    liverange.Set
	m    model
	b    treebuild.Builder // builds a document meanwhile
	c    treebuild.Builder // the same in the model's tree
	next func(below int) int
	log  []string
	wide int // how many ranges with texts were seen, and iterators that have left their root
}

// newLife returns the beginning of a life, with some nodes, ranges and iterators.
func newLife(t *testing.T, salt api.Salt, next func(below int) int) *life {
	l := &life{T: t, t: tree.New(salt), m: model{t: tree.New(salt)}, next: next}
	for range 12 {
		l.make()
	}
	for range 20 {
		l.insert(l.node(), l.node())
	}
	for range 3 {
		l.create()
		l.iterate()
	}
	return l
}

// note writes down what happens, for a report.
func (l *life) note(format string, args ...any) { l.log = append(l.log, fmt.Sprintf(format, args...)) }

func (l *life) fail(format string, args ...any) {
	l.Helper()
	l.Fatalf("%s\nafter %s", fmt.Sprintf(format, args...), strings.Join(l.log, "; "))
}

// make makes a detached node in both trees.
func (l *life) make() {
	kind := tree.Element + l.next(3)
	data := []string{"", "a", "bé", "c€de"}[l.next(4)]
	l.t.Make(kind, "x", data, nil)
	l.m.t.Make(kind, "x", data, nil)
}

// node returns a handle, mostly that of a node.
func (l *life) node() api.Handle {
	list := []api.Handle{0, 1 << 40}
	for h := range l.t.Nodes.All() {
		list = append(list, h)
	}
	if l.next(20) == 0 {
		return list[l.next(2)]
	}
	return list[2+l.next(len(list)-2)]
}

// point returns a point, mostly a valid one, and mostly one of the tree to which a node belongs.
func (l *life) point(h api.Handle) liverange.Point {
	if top := l.t.Top(h); top != 0 && l.next(8) > 0 {
		h = top
	} else {
		h = l.node()
	}
	list := places(l.t, h)
	at := list[l.next(len(list))]
	if l.next(20) == 0 {
		at.Index += l.next(9) - 4
	}
	return at
}

// id returns a number, mostly that of a range, or of an iterator.
func (l *life) id(isRange bool) int {
	if isRange && len(l.s.Ranges) > 0 && l.next(10) > 0 {
		return l.s.Ranges[l.next(len(l.s.Ranges))].Id
	}
	if !isRange && len(l.s.Iterators) > 0 && l.next(10) > 0 {
		return l.s.Iterators[l.next(len(l.s.Iterators))].Id
	}
	return l.next(l.s.Last + 2)
}

// step calls a function of the set or of the tree, and its like of the model.
func (l *life) step() {
	l.Helper()
	switch l.next(20) {
	case 0:
		l.create()
	case 1:
		l.iterate()
	case 2:
		id := l.next(l.s.Last + 2)
		l.note("Drop(%d)", id)
		l.equal(0, 0, l.s.Drop(id), l.m.drop(id))
	case 3, 4, 5:
		l.set(l.id(true))
	case 6, 7:
		l.pass(l.id(false))
	case 8:
		l.compare()
	case 9:
		if l.next(4) == 0 {
			l.delete(l.id(true))
		}
	default:
		l.mutate()
	}
}

func (l *life) create() {
	l.Helper()
	at := l.point(l.node())
	l.note("Create(%+v)", at)
	got, e := l.s.Create(l.t, at)
	want, f := l.m.create(at)
	l.equal(got, want, e, f)
}

func (l *life) iterate() {
	l.Helper()
	h := l.node()
	l.note("Iterate(%d)", h)
	got, e := l.s.Iterate(l.t, h)
	want, f := l.m.iterate(h)
	l.equal(got, want, e, f)
}

// set moves both boundaries of a range.
func (l *life) set(id int) {
	l.Helper()
	r, _ := l.s.Range(id)
	at := l.point(r.Start.Node)
	l.note("SetStart(%d, %+v)", id, at)
	l.equal(0, 0, l.s.SetStart(l.t, id, at), l.m.set(id, at, true))
	at = l.point(at.Node)
	l.note("SetEnd(%d, %+v)", id, at)
	l.equal(0, 0, l.s.SetEnd(l.t, id, at), l.m.set(id, at, false))
}

// pass moves an iterator forth, and less often back.
func (l *life) pass(id int) {
	l.Helper()
	for range 1 + l.next(6) {
		l.note("Next(%d)", id)
		got, e := l.s.Next(l.t, id)
		want, f := l.m.pass(id, 1)
		l.equal(got, want, e, f)
	}
	for range l.next(4) {
		l.note("Back(%d)", id)
		got, e := l.s.Back(l.t, id)
		want, f := l.m.pass(id, -1)
		l.equal(got, want, e, f)
	}
}

func (l *life) compare() {
	l.Helper()
	a := l.point(l.node())
	b := l.point(a.Node)
	got, e := liverange.Compare(l.t, a, b)
	want, f := l.m.compare(a, b)
	if got != want || e != f {
		l.fail("Compare(%+v, %+v) is %d, error %d, not %d, error %d", a, b, got, e, want, f)
	}
}

func (l *life) equal(got, want int, e, f api.Errno) {
	l.Helper()
	if got != want || e != f {
		l.fail("%d, error %d, not %d, error %d", got, e, want, f)
	}
}

// delete deletes a range.
func (l *life) delete(id int) {
	l.Helper()
	l.note("Delete(%d)", id)
	want, f := l.m.text(id)
	text, e := l.s.Text(l.t, id)
	if text != want || e != f {
		l.fail("Text is %q, error %d, not %q, error %d", text, e, want, f)
	}
	r, _ := l.s.Range(id)
	top := l.t.Top(r.Start.Node)
	whole := l.t.Content(top)
	second := liverange.Set{Ranges: slices.Clone(l.s.Ranges), Iterators: slices.Clone(l.s.Iterators), Last: l.s.Last}
	records, e := l.s.Delete(l.t, id)
	expected, f := l.m.delete(id)
	l.equal(0, 0, e, f)
	if !slices.Equal(records, expected) {
		l.fail("Delete has the records\n%+v, not\n%+v", records, expected)
	}
	if !removes(whole, text, l.t.Content(top)) {
		l.fail("Delete leaves %q of %q, without %q", l.t.Content(top), whole, text)
	}
	if text, _ := l.s.Text(l.t, id); text != "" {
		l.fail("Delete leaves the text %q", text)
	}
	// A set that gets the records becomes the same, but for the range itself.
	second.Update(l.t, records)
	second.SetEnd(l.t, id, r.Start)
	if i := slices.IndexFunc(second.Ranges, func(r liverange.Range) bool { return r.Id == id }); i >= 0 {
		second.Ranges[i] = l.s.Ranges[i]
	}
	l.same(second, l.s)
}

// mutate changes the tree by a call of a lower layer.
func (l *life) mutate() {
	l.Helper()
	h := l.node()
	switch l.next(10) {
	case 0:
		l.make()
	case 1:
		if l.next(2) == 0 {
			l.note("Remove(%d)", h)
			records, _ := l.t.Remove(h)
			l.s.Update(l.t, records)
			l.m.remove(h)
		}
	case 2:
		index, count, s := l.next(5), l.next(4), []string{"", "x", "yé", "z€zz"}[l.next(4)]
		l.note("Replace(%d, %d, %d, %q)", h, index, count, s)
		records, _ := l.t.Replace(h, index, count, s)
		l.s.Update(l.t, records)
		l.m.change(h, index, count, s)
	case 3:
		records, _ := l.t.SetAttr(h, "a", "b")
		l.s.Update(l.t, records)
		l.m.t.SetAttr(h, "a", "b")
	case 4:
		if l.next(5) == 0 {
			l.fragment(h)
		}
	case 5:
		l.build()
	default:
		l.insert(l.node(), h)
	}
}

func (l *life) fragment(h api.Handle) {
	s := []string{"", "a<x>b</x>c", "<x><x>ab", "<!--a--><x></x>"}[l.next(4)]
	l.note("Fragment(%d, %q)", h, s)
	records, e := treebuild.Fragment(l.t, h, s)
	l.s.Update(l.t, records)
	if e == api.OK {
		l.m.fragment(h, s)
	}
}

// build makes a step of the construction of a document.
func (l *life) build() {
	s := []string{"<p>", "a", "é<b>", "</p>", "<!--c-->", "<table>d<td>"}[l.next(6)]
	l.note("Step of %q", s)
	l.b.Feed(s)
	l.c.Feed(s)
	l.s.Update(l.t, l.b.Step(l.t).Records)
	l.m.keep(func() []tree.Record { return l.c.Step(l.m.t).Records })
}

// insert inserts a node into a parent, ahead of some child, itself, or at the end.
func (l *life) insert(parent, h api.Handle) {
	kids := append(l.t.Kids(parent), 0)
	before := kids[l.next(len(kids))]
	l.note("Insert(%d, %d, %d)", parent, h, before)
	records, e := l.t.Insert(parent, h, before)
	l.s.Update(l.t, records)
	if e == api.OK {
		l.m.insert(parent, h, before)
	}
}

// same compares two sets.
func (l *life) same(got, want liverange.Set) {
	l.Helper()
	if !slices.Equal(got.Ranges, want.Ranges) || !slices.Equal(got.Iterators, want.Iterators) || got.Last != want.Last {
		l.fail("the set is\n%+v, not\n%+v", got, want)
	}
}

// check compares everything, and asks whether the set is valid, by the function and by the lists of all points and nodes.
func (l *life) check() {
	l.Helper()
	l.same(l.s, l.m.s)
	for h := range l.t.Nodes.All() {
		if !slices.Equal(l.t.Kids(h), l.m.t.Kids(h)) || !tree.Same(l.t, h, l.m.t, h) {
			l.fail("the trees differ at %d", h)
		}
	}
	if !l.s.Valid(l.t) {
		l.fail("%+v is not valid", l.s)
	}
	for _, r := range l.s.Ranges {
		if c, e := l.m.compare(r.Start, r.End); e != api.OK || c > 0 {
			l.fail("%+v is not valid", r)
		}
		want, _ := l.m.text(r.Id)
		if text, e := l.s.Text(l.t, r.Id); text != want || e != api.OK {
			l.fail("the text of %+v is %q, error %d, not %q", r, text, e, want)
		}
		if want != "" {
			l.wide++
		}
	}
	for _, it := range l.s.Iterators {
		if !slices.Contains(slices.Collect(l.t.Walk(it.Root)), it.Ref) {
			l.fail("%+v is not valid", it)
		}
		if it.Ref != it.Root {
			l.wide++
		}
	}
}

// P10.1, P10.2, P10.3: whatever is done, the set is that of the model, and valid.
func TestLivesFollowModel(t *testing.T) {
	next := random()
	wide := 0
	for i := range 1000 {
		l := newLife(t, salts[i%len(salts)], next)
		for range 80 {
			l.step()
			l.check()
		}
		wide += l.wide
	}
	// Without this, the runs would say little.
	if wide < 20000 {
		t.Errorf("only %d ranges had texts, and iterators had left their root", wide)
	}
}

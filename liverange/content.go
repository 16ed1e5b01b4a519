package liverange

import (
	"iter"
	"strings"

	"knapsack/api"
	"knapsack/text"
	"knapsack/tree"
)

// Text returns the data of the texts within a range: ErrNone if there is no such range.
func (s *Set) Text(t *tree.Tree, id int) (string, api.Errno) {
	r, e := s.Range(id)
	if e != api.OK || !sound(t, r) {
		return "", e
	}
	var b strings.Builder
	for h := range span(t, r) {
		if n, _ := t.Node(h); n.Kind == tree.Text {
			from, to := part(r, h, n)
			b.WriteString(text.Slice(n.Data, from, to))
		}
	}
	return b.String(), api.OK
}

// span yields the nodes that begin within a range, in document order, and ahead of them the text or comment in which the range starts.
func span(t *tree.Tree, r Range) iter.Seq[api.Handle] {
	return func(yield func(api.Handle) bool) {
		first, stop := after(t, r.Start), after(t, r.End)
		if n, _ := t.Node(r.Start.Node); hasData(n) {
			first = r.Start.Node
		}
		for h := first; h != 0 && h != stop; h = following(t, h) {
			if !yield(h) {
				return
			}
		}
	}
}

// after returns the node that begins first after a point, 0 if there is none.
func after(t *tree.Tree, at Point) api.Handle {
	if kids := t.Kids(at.Node); at.Index < len(kids) {
		return kids[at.Index]
	}
	return beyond(t, at.Node)
}

// part returns the indices between which the data of a node are within a range, provided that it begins or ends in the node, or contains it.
func part(r Range, h api.Handle, n tree.Node) (from, to int) {
	to = text.Len(n.Data)
	if h == r.Start.Node {
		from = r.Start.Index
	}
	if h == r.End.Node {
		to = r.End.Index
	}
	return from, to
}

// Delete removes the contents of a range from the tree, and adjusts the set: ErrNone if there is no such range.
func (s *Set) Delete(t *tree.Tree, id int) ([]tree.Record, api.Errno) {
	i := s.rangeIndex(id)
	if i < 0 {
		return nil, api.ErrNone
	}
	r := s.Ranges[i]
	if !sound(t, r) {
		return nil, api.OK
	}
	inner, end := within(t, r), remains(t, r)
	var records []tree.Record
	note := func(list []tree.Record, _ api.Errno) {
		s.Update(t, list)
		records = append(records, list...)
	}
	note(cut(t, r, r.Start.Node))
	for _, h := range inner {
		note(t.Remove(h))
	}
	if r.End.Node != r.Start.Node {
		note(cut(t, r, r.End.Node))
	}
	s.Ranges[i].Start, s.Ranges[i].End = end, end
	return records, api.OK
}

// within returns the nodes that lie completely within a range, and whose parents do not, in document order.
func within(t *tree.Tree, r Range) []api.Handle {
	var list []api.Handle
	outer := 0
	for h := range span(t, r) {
		isPartial := t.Contains(h, r.Start.Node) || t.Contains(h, r.End.Node)
		if !isPartial && !t.Contains(outer, h) {
			list = append(list, h)
			outer = h
		}
	}
	return list
}

// remains returns the point that is left of a range without what is within it. It is the same before and after that is removed, as nothing ahead of the point is.
func remains(t *tree.Tree, r Range) Point {
	if t.Contains(r.Start.Node, r.End.Node) {
		return r.Start
	}
	h := branch(t, r.Start.Node, r.End.Node)
	n, _ := t.Node(h)
	return Point{Node: n.Parent, Index: t.Index(h) + 1}
}

// cut removes the code points within a range from a text or comment in which it starts or ends, and returns the record of that, if there are any.
func cut(t *tree.Tree, r Range, h api.Handle) ([]tree.Record, api.Errno) {
	n, _ := t.Node(h)
	from, to := part(r, h, n)
	if !hasData(n) || from == to {
		return nil, api.OK
	}
	return t.Replace(h, from, to-from, "")
}

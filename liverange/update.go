package liverange

import (
	"knapsack/api"
	"knapsack/tree"
)

// Update adjusts all ranges and iterators to mutations; t is the tree after them.
func (s *Set) Update(t *tree.Tree, list []tree.Record) {
	t = present(t)
	for _, record := range list {
		s.eachPoint(func(p *Point) { adjust(t, record, p) })
		if record.Kind == tree.Removed {
			s.retreat(t, record)
		}
	}
}

// eachPoint calls a function with a pointer to each point of the ranges.
func (s *Set) eachPoint(visit func(p *Point)) {
	for i := range s.Ranges {
		visit(&s.Ranges[i].Start)
		visit(&s.Ranges[i].End)
	}
}

// adjust moves a point as a record demands. A node that was removed still contains in t what it contained then, as one call takes no node apart that it removes.
func adjust(t *tree.Tree, record tree.Record, p *Point) {
	behind := p.Node == record.Target && p.Index > record.Index
	switch {
	case record.Kind == tree.Removed && t.Contains(record.Node, p.Node):
		*p = Point{Node: record.Target, Index: record.Index}
	case !behind:
		// What changes behind a point does not move it.
	case record.Kind == tree.Inserted:
		p.Index++
	case record.Kind == tree.Removed:
		p.Index--
	case record.Kind == tree.Data && p.Index-record.Index <= record.Count:
		p.Index = record.Index
	case record.Kind == tree.Data:
		p.Index += record.Size - record.Count
	}
}

// retreat moves the iterators whose Ref was removed from their Root to what came before.
func (s *Set) retreat(t *tree.Tree, record tree.Record) {
	for i := range s.Iterators {
		it := &s.Iterators[i]
		if !t.Contains(record.Node, it.Ref) || t.Contains(record.Node, it.Root) {
			continue
		}
		it.Ref, it.Before = record.Target, false
		if record.Prev != 0 {
			it.Ref = last(t, record.Prev, record.Node)
		}
	}
}

// last returns the last node in document order that h contains, and without does not: a node that was moved may lie within its former sibling now.
func last(t *tree.Tree, h, without api.Handle) api.Handle {
	for {
		n, _ := t.Node(h)
		kid := n.Last
		if kid == without {
			removed, _ := t.Node(kid)
			kid = removed.Prev
		}
		if kid == 0 {
			return h
		}
		h = kid
	}
}

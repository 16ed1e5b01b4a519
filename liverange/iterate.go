package liverange

import (
	"knapsack/api"
	"knapsack/tree"
)

// Iterate makes an iterator that stands before the first node within root: ErrNone if there is no such node.
func (s *Set) Iterate(t *tree.Tree, root api.Handle) (int, api.Errno) {
	if _, ok := present(t).Node(root); !ok {
		return 0, api.ErrNone
	}
	s.Last++
	s.Iterators = append(s.Iterators, Iterator{Id: s.Last, Root: root, Ref: root, Before: true})
	return s.Last, api.OK
}

// Next and Back move an iterator and return the node that it passes: 0 if there is none; ErrNone if there is no such iterator.
func (s *Set) Next(t *tree.Tree, id int) (api.Handle, api.Errno) {
	return s.pass(present(t), id, true, following)
}

func (s *Set) Back(t *tree.Tree, id int) (api.Handle, api.Errno) {
	return s.pass(present(t), id, false, preceding)
}

// pass moves an iterator forth or back: over its Ref, if it stands on this side of it, otherwise over the neighbour of Ref on the other side.
func (s *Set) pass(t *tree.Tree, id int, forth bool, neighbour func(*tree.Tree, api.Handle) api.Handle) (api.Handle, api.Errno) {
	i := s.iteratorIndex(id)
	if i < 0 {
		return 0, api.ErrNone
	}
	it := &s.Iterators[i]
	if it.Before == forth {
		it.Before = !forth
		return it.Ref, api.OK
	}
	h := neighbour(t, it.Ref)
	if !t.Contains(it.Root, h) {
		return 0, api.OK
	}
	it.Ref = h
	return h, api.OK
}

// following returns the node that comes after h in document order, 0 if there is none.
func following(t *tree.Tree, h api.Handle) api.Handle {
	if n, _ := t.Node(h); n.First != 0 {
		return n.First
	}
	return beyond(t, h)
}

// beyond returns the node that comes after all that h contains in document order, 0 if there is none.
func beyond(t *tree.Tree, h api.Handle) api.Handle {
	for h != 0 {
		n, _ := t.Node(h)
		if n.Next != 0 {
			return n.Next
		}
		h = n.Parent
	}
	return 0
}

// preceding returns the node that comes before h in document order, 0 if there is none.
func preceding(t *tree.Tree, h api.Handle) api.Handle {
	n, _ := t.Node(h)
	if n.Prev == 0 {
		return n.Parent
	}
	return last(t, n.Prev, 0)
}

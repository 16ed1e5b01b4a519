package liverange

import (
	"cmp"

	"knapsack/api"
	"knapsack/text"
	"knapsack/tree"
)

// pointError returns OK if a point is valid, ErrNone if its node does not exist, and ErrRange if its index is out of range.
func pointError(t *tree.Tree, at Point) api.Errno {
	n, ok := present(t).Node(at.Node)
	if !ok {
		return api.ErrNone
	}
	greatest := len(t.Kids(at.Node))
	if hasData(n) {
		greatest = text.Len(n.Data)
	}
	if at.Index < 0 || at.Index > greatest {
		return api.ErrRange
	}
	return api.OK
}

// hasData reports whether the points within a node lie among code points, and not among children.
func hasData(n tree.Node) bool { return n.Kind == tree.Text || n.Kind == tree.Comment }

// Compare compares two points: ErrRange if one of them is not valid, ErrNone if they are not in one tree.
func Compare(t *tree.Tree, a, b Point) (int, api.Errno) {
	switch {
	case pointError(t, a) != api.OK || pointError(t, b) != api.OK:
		return 0, api.ErrRange
	case t.Top(a.Node) != t.Top(b.Node):
		return 0, api.ErrNone
	}
	return order(t, a, b), api.OK
}

// order compares two points of one tree.
func order(t *tree.Tree, a, b Point) int {
	switch {
	case a.Node == b.Node:
		return cmp.Compare(a.Index, b.Index)
	case t.Contains(b.Node, a.Node):
		return -order(t, b, a)
	case t.Contains(a.Node, b.Node):
		if a.Index <= t.Index(branch(t, b.Node, a.Node)) {
			return -1
		}
		return 1
	}
	result, _ := t.Compare(a.Node, b.Node)
	return result
}

// branch returns the highest node that contains h, but not other, which does not lie within h: if other contains h, that is a child of other.
func branch(t *tree.Tree, h, other api.Handle) api.Handle {
	for {
		n, _ := t.Node(h)
		if n.Parent == 0 || t.Contains(n.Parent, other) {
			return h
		}
		h = n.Parent
	}
}

// inOrder reports whether two points are in one tree, and the first one is not after the second one.
func inOrder(t *tree.Tree, a, b Point) bool {
	return t.Top(a.Node) == t.Top(b.Node) && order(t, a, b) <= 0
}

// sound reports whether a range is as this package leaves it, as long as its nodes exist and it is told of every change.
func sound(t *tree.Tree, r Range) bool {
	return pointError(t, r.Start) == api.OK && pointError(t, r.End) == api.OK && inOrder(t, r.Start, r.End)
}

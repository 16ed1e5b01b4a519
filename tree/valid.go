package tree

import (
	"strings"

	"knapsack/api"
	"knapsack/text"
)

// Valid reports whether the links of all nodes are consistent, each node is where it may be, names are valid, and the limits are kept. It ends for any links, as it is asked about trees that come from outside.
func (t *Tree) Valid() bool {
	if t.Nodes.Len() > api.MaxNodes || t.at(t.Root).Kind != Document || !t.linked() {
		return false
	}
	for h, n := range t.Nodes.All() {
		if !t.wellPlaced(h) || !validNames(n) || !withinLimits(n) {
			return false
		}
	}
	return true
}

// linked reports whether all links lead from parents to their children, and back. There may still be nodes that contain themselves.
func (t *Tree) linked() bool {
	found, sought := 0, 0
	for h, n := range t.Nodes.All() {
		count, ok := t.linkedKids(h)
		if !ok || n.Parent == 0 && (n.Prev != 0 || n.Next != 0) {
			return false
		}
		found += count
		if n.Parent != 0 {
			sought++
		}
	}
	// A node is found at most once, as a child of its Parent: so if the numbers are equal, each one is.
	return found == sought
}

// linkedKids returns the number of the children of a node, and whether their links are consistent. It ends because each child must lead back to the one before: the links cannot reach a child again.
func (t *Tree) linkedKids(h api.Handle) (int, bool) {
	count, prev := 0, 0
	for kid := range t.kids(h) {
		n := t.at(kid)
		if n.Parent != h || n.Prev != prev {
			return 0, false
		}
		count++
		prev = kid
	}
	return count, t.at(h).Last == prev
}

// wellPlaced reports whether a node of linked ones has a kind, a parent, and a depth that it may have; only the root is a document.
func (t *Tree) wellPlaced(h api.Handle) bool {
	n := t.at(h)
	if n.Kind < Document || n.Kind > Comment || (n.Kind == Document) != (h == t.Root) {
		return false
	}
	levels := 0
	for range t.up(h) {
		levels++
		// This is asked within the loop because a node may contain itself.
		if levels > api.MaxDepth {
			return false
		}
	}
	return n.Parent == 0 || t.accepts(n.Parent, h)
}

// validNames reports whether the names of an element and of its attributes are valid, and the latter all different; true for another node.
func validNames(n Node) bool {
	if n.Kind != Element {
		return true
	}
	seen := make(map[string]bool, len(n.Attrs))
	for _, attr := range n.Attrs {
		if seen[attr.Name] || !validAttrName(attr.Name) {
			return false
		}
		seen[attr.Name] = true
	}
	return n.Name != "" && n.Name[0] >= 'a' && n.Name[0] <= 'z' && plain(n.Name)
}

// validAttrName reports whether name is a valid name of an attribute.
func validAttrName(name string) bool {
	return name != "" && !strings.Contains(name[1:], "=") && plain(name)
}

// plain reports whether s contains what any valid name may contain, and nothing else.
func plain(s string) bool {
	for i := range len(s) {
		c := s[i]
		if text.IsSpace(c) || c == '/' || c == '>' || c >= 'A' && c <= 'Z' {
			return false
		}
	}
	return text.Valid(s)
}

// withinLimits reports whether a node has not too many attributes, and its data and their values are not too long.
func withinLimits(n Node) bool {
	for _, attr := range n.Attrs {
		if !fits(attr.Value) {
			return false
		}
	}
	return len(n.Attrs) <= api.MaxAttrs && fits(n.Data)
}

// fits reports whether a string is not too long; this counts for its repaired form, in which one that comes from outside may not be.
func fits(s string) bool { return len(text.Repair(s)) <= api.MaxString }

package selector

import (
	"slices"
	"strings"

	"knapsack/api"
	"knapsack/text"
	"knapsack/tree"
)

// element is an element of a tree with its handle.
type element struct {
	tree.Node
	handle api.Handle
}

// question is whether an element has a partner that matches the first parts of a selector.
type question struct {
	handle api.Handle
	parts  int
}

// matcher matches elements of a tree against one selector after the other. It keeps what it has found out, since otherwise the time would grow exponentially with the number of combinators, and with the square of the number of siblings.
type matcher struct {
	t         *tree.Tree
	state     State
	parts     []Part             // those of the selector
	answers   map[question]bool  // for this selector
	positions map[api.Handle]int // of elements among their siblings
}

// newMatcher returns a matcher without a selector. A tree without nodes takes the place of nil.
func newMatcher(t *tree.Tree, state State) *matcher {
	if t == nil {
		t = new(tree.Tree)
	}
	return &matcher{t: t, state: state, positions: map[api.Handle]int{}}
}

// use takes another selector.
func (m *matcher) use(s Selector) {
	m.parts = s.Parts
	m.answers = map[question]bool{}
}

// element returns a node that is an element, nil for another one or none.
func (m *matcher) element(h api.Handle) *element {
	n, _ := m.t.Node(h)
	if n.Kind != tree.Element {
		return nil
	}
	return &element{n, h}
}

// within returns the elements among the descendants of a node, in document order.
func (m *matcher) within(root api.Handle) []*element {
	var list []*element
	for h := range m.t.Walk(root) {
		if e := m.element(h); e != nil && h != root {
			list = append(list, e)
		}
	}
	return list
}

// previous and following return the sibling of an element that is the nearest element before or after it, nil if there is none.
func (m *matcher) previous(e *element) *element {
	return m.nearest(e.Prev, func(n tree.Node) api.Handle { return n.Prev })
}

func (m *matcher) following(e *element) *element {
	return m.nearest(e.Next, func(n tree.Node) api.Handle { return n.Next })
}

// nearest returns the first element among a node and those to which a link leads from it.
func (m *matcher) nearest(h api.Handle, link func(n tree.Node) api.Handle) *element {
	for h != 0 {
		n, _ := m.t.Node(h)
		if n.Kind == tree.Element {
			return &element{n, h}
		}
		h = link(n)
	}
	return nil
}

// accepts reports whether an element (none if it is nil) matches the selector.
func (m *matcher) accepts(e *element) bool {
	return e != nil && len(m.parts) > 0 && m.matches(e, len(m.parts))
}

// matches reports whether an element matches the first parts of the selector, so many of them.
func (m *matcher) matches(e *element, parts int) bool {
	last := m.parts[parts-1]
	return m.passes(e, last.Type, last.Tests) && (parts == 1 || m.hasPartner(e, parts-1))
}

// hasPartner reports whether an element has a partner that matches the first parts of the selector, as the part behind them is joined with them.
func (m *matcher) hasPartner(e *element, parts int) bool {
	join := m.parts[parts].Join
	switch join {
	case Child, Adjacent:
		partner := m.partner(e, join)
		return partner != nil && m.matches(partner, parts)
	}
	asked := question{e.handle, parts}
	answer, known := m.answers[asked]
	if !known {
		partner := m.partner(e, join)
		answer = partner != nil && (m.matches(partner, parts) || m.hasPartner(partner, parts))
		m.answers[asked] = answer
	}
	return answer
}

// partner returns the nearest partner that an element may have by a combinator, nil if there is none. Further ones are the partners of that one.
func (m *matcher) partner(e *element, join int) *element {
	switch join {
	case Descendant, Child:
		return m.element(e.Parent)
	case Adjacent, Sibling:
		return m.previous(e)
	}
	return nil
}

// passes reports whether an element has that name (any, if it is "") and passes all tests.
func (m *matcher) passes(e *element, name string, tests []Test) bool {
	if name != "" && name != e.Name {
		return false
	}
	for _, test := range tests {
		if !m.holds(e, test) {
			return false
		}
	}
	return true
}

// holds reports whether a test holds for an element.
func (m *matcher) holds(e *element, test Test) bool {
	switch test.Kind {
	case Id, Class, Exists, Equals, Word, Prefix:
		return m.holdsForAttr(e, test)
	case First:
		return m.previous(e) == nil
	case Final:
		return m.following(e) == nil
	case Nth:
		return isTerm(m.position(e), test.A, test.B)
	case Empty:
		return !slices.ContainsFunc(m.t.Kids(e.handle), m.isContent)
	case Focus:
		return e.handle == m.state.Focus
	case Hover:
		return m.t.Contains(e.handle, m.state.Hover)
	case Checked:
		return slices.Contains(m.state.Checked, e.handle)
	case Not:
		return !m.passes(e, test.Name, test.Not)
	}
	return false
}

// holdsForAttr reports whether a test of an attribute holds for an element.
func (m *matcher) holdsForAttr(e *element, test Test) bool {
	name := test.Name
	switch test.Kind {
	case Id:
		name = "id"
	case Class:
		name = "class"
	}
	value, ok := m.t.Attr(e.handle, name)
	if !ok {
		return false
	}
	switch test.Kind {
	case Id:
		return value == test.Name
	case Class:
		return hasWord(value, test.Name)
	case Equals:
		return value == test.Value
	case Word:
		return hasWord(value, test.Value)
	case Prefix:
		return test.Value != "" && strings.HasPrefix(value, test.Value)
	}
	return true
}

// hasWord reports whether a word is one of those of s.
func hasWord(s, word string) bool { return slices.Contains(text.Fields(s), word) }

// isContent reports whether an element is not empty because of a child.
func (m *matcher) isContent(kid api.Handle) bool {
	n, _ := m.t.Node(kid)
	return n.Kind == tree.Element || n.Kind == tree.Text && n.Data != ""
}

// position returns the position of an element among its siblings that are elements, counted from 1.
func (m *matcher) position(e *element) int {
	position, known := m.positions[e.handle]
	if !known {
		position = 1
		if previous := m.previous(e); previous != nil {
			position += m.position(previous)
		}
		m.positions[e.handle] = position
	}
	return position
}

// isTerm reports whether a position is a k + b for an integer k that is not negative.
func isTerm(position, a, b int) bool {
	// The distance between the numbers may be too great for an int, and so may be the opposite of a.
	switch {
	case position > b:
		return a > 0 && (uint64(position)-uint64(b))%uint64(a) == 0
	case position < b:
		return a < 0 && (uint64(b)-uint64(position))%-uint64(a) == 0
	}
	return true
}

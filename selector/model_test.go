package selector_test

import (
	"slices"
	"strings"
	"testing"

	"knapsack/api"
	"knapsack/selector"
	"knapsack/tree"
)

// model answers by the words of the document, as slowly as they are.
type model struct {
	t     *tree.Tree
	state selector.State
}

func (m model) isElement(h api.Handle) bool {
	n, _ := m.t.Node(h)
	return n.Kind == tree.Element
}

func (m model) parent(h api.Handle) api.Handle {
	n, _ := m.t.Node(h)
	return n.Parent
}

// ancestors returns those of a node, from the inside out.
func (m model) ancestors(h api.Handle) []api.Handle {
	var list []api.Handle
	for p := m.parent(h); p != 0; p = m.parent(p) {
		list = append(list, p)
	}
	return list
}

// family returns an element and its siblings that are elements, and its index among them.
func (m model) family(h api.Handle) ([]api.Handle, int) {
	list := []api.Handle{h}
	if p := m.parent(h); p != 0 {
		list = slices.DeleteFunc(m.t.Kids(p), func(kid api.Handle) bool { return !m.isElement(kid) })
	}
	return list, slices.Index(list, h)
}

// partners returns all partners that an element may have.
func (m model) partners(h api.Handle, join int) []api.Handle {
	list, index := m.family(h)
	switch join {
	case selector.Descendant:
		return m.ancestors(h)
	case selector.Child:
		return m.ancestors(h)[:min(1, len(m.ancestors(h)))]
	case selector.Adjacent:
		return list[max(0, index-1):index]
	case selector.Sibling:
		return list[:index]
	}
	return nil
}

func (m model) matches(h api.Handle, parts []selector.Part) bool {
	if len(parts) == 0 || !m.isElement(h) {
		return false
	}
	rest, last := parts[:len(parts)-1], parts[len(parts)-1]
	if !m.passes(h, last.Type, last.Tests) {
		return false
	}
	return len(rest) == 0 || slices.ContainsFunc(m.partners(h, last.Join), func(p api.Handle) bool { return m.matches(p, rest) })
}

func (m model) passes(h api.Handle, name string, tests []selector.Test) bool {
	n, _ := m.t.Node(h)
	return (name == "" || n.Name == name) && !slices.ContainsFunc(tests, func(x selector.Test) bool { return !m.holds(h, x) })
}

func (m model) holds(h api.Handle, x selector.Test) bool {
	value, has := m.t.Attr(h, x.Name)
	id, hasId := m.t.Attr(h, "id")
	class, _ := m.t.Attr(h, "class")
	list, index := m.family(h)
	switch x.Kind {
	case selector.Id:
		return hasId && id == x.Name
	case selector.Class:
		return slices.Contains(words(class), x.Name)
	case selector.Exists:
		return has
	case selector.Equals:
		return has && value == x.Value
	case selector.Word:
		return slices.Contains(words(value), x.Value)
	case selector.Prefix:
		return x.Value != "" && len(value) >= len(x.Value) && value[:len(x.Value)] == x.Value
	case selector.First:
		return index == 0
	case selector.Final:
		return index == len(list)-1
	case selector.Nth:
		for k := range 100 {
			if x.A*k+x.B == index+1 {
				return true
			}
		}
	case selector.Empty:
		return !slices.ContainsFunc(m.t.Kids(h), func(kid api.Handle) bool {
			n, _ := m.t.Node(kid)
			return n.Kind == tree.Element || n.Kind == tree.Text && n.Data != ""
		})
	case selector.Focus:
		return h == m.state.Focus
	case selector.Hover:
		return h == m.state.Hover || slices.Contains(m.ancestors(m.state.Hover), h)
	case selector.Checked:
		return slices.Contains(m.state.Checked, h)
	case selector.Not:
		return !m.passes(h, x.Name, x.Not)
	}
	return false
}

func words(s string) []string {
	return strings.FieldsFunc(s, func(r rune) bool { return strings.ContainsRune("\t\n\f\r ", r) })
}

// matchesOne reports whether an element matches one of the selectors.
func (m model) matchesOne(h api.Handle, list []selector.Selector) bool {
	return slices.ContainsFunc(list, func(s selector.Selector) bool { return m.matches(h, s.Parts) })
}

// randomTree returns a tree with detached ones beside it, and its nodes in the order in which they were made.
func randomTree(next func(below int) int, salt api.Salt) (*tree.Tree, []api.Handle) {
	t := tree.New(salt)
	nodes := []api.Handle{t.Root}
	for range 4 + next(16) {
		kind := tree.Element
		if next(4) == 0 {
			kind = tree.Text + next(2)
		}
		var attrs []api.Attr
		for _, name := range []string{"id", "class", "a", "href"} {
			if next(2) == 0 {
				attrs = append(attrs, api.Attr{Name: name, Value: pick(next, "a", "B", "a B", " -Z\tx-1 ", "x y", "", "é", `"`, "ab")})
			}
		}
		h, _ := t.Make(kind, pick(next, "a", "b", "b", "odd"), pick(next, "", "x"), attrs)
		nodes = append(nodes, h)
		parent := nodes[max(0, len(nodes)-2-next(5))]
		before := api.Handle(0)
		if kids := t.Kids(parent); len(kids) > 0 && next(2) == 0 {
			before = kids[next(len(kids))]
		}
		// Nodes that may not be there stay detached.
		t.Insert(parent, h, before)
	}
	return t, nodes
}

// randomState returns a state, and one that corresponds to it for each of the other lists of nodes.
func randomState(next func(below int) int, nodes [][]api.Handle) []selector.State {
	states := make([]selector.State, len(nodes))
	focus, hover := next(len(nodes[0])), next(len(nodes[0]))
	for range next(4) {
		checked := next(len(nodes[0]))
		for i := range states {
			states[i].Checked = append(states[i].Checked, nodes[i][checked])
		}
	}
	for i := range states {
		states[i].Focus, states[i].Hover = nodes[i][focus], nodes[i][hover]
	}
	return states
}

// P11.1, P11.3: random trees, each with several salts, and random selectors.
func TestFollowsModel(t *testing.T) {
	next := random()
	matched := 0
	for run := range 3000 {
		var trees []*tree.Tree
		var nodes [][]api.Handle
		seed := next(1 << 20)
		for _, salt := range salts {
			x, handles := randomTree(seeded(seed), salt)
			trees, nodes = append(trees, x), append(nodes, handles)
		}
		states := randomState(next, nodes)
		list := randomList(next, 3, next(3))
		if next(10) == 0 {
			list[0].Parts[0].Join = 1 + next(4)
			list[0].Parts[len(list[0].Parts)-1].Join = next(7) - 1
		}
		root := next(len(nodes[0]))
		for i, x := range trees {
			m := model{x, states[i]}
			matched += agrees(t, m, nodes[i], nodes[i][root], list)
			if t.Failed() {
				t.Fatalf("run %d, salt %v, selectors\n%s", run, salts[i], show(list))
			}
		}
	}
	if matched < 3000 {
		t.Errorf("only %d elements matched", matched)
	}
}

// seeded is random, but begins elsewhere.
func seeded(seed int) func(below int) int {
	state := uint64(seed)*2862933555777941757 + 3037000493
	return func(below int) int {
		state = state*6364136223846793005 + 1442695040888963407
		return int(state>>33) % below
	}
}

// agrees checks what all functions that match say of all nodes. It returns the number of elements that matched.
func agrees(t *testing.T, m model, nodes []api.Handle, root api.Handle, list []selector.Selector) int {
	matched := 0
	for i, h := range nodes {
		for _, s := range list {
			if got := selector.Match(m.t, h, s, m.state); got != m.matches(h, s.Parts) {
				t.Errorf("Match of the node %d is %v", i, got)
			}
			negations(t, m, h, s)
		}
		nearest := api.Handle(0)
		for _, at := range append([]api.Handle{h}, m.ancestors(h)...) {
			if m.matchesOne(at, list) {
				nearest = at
				matched++
				break
			}
		}
		if got := selector.Closest(m.t, h, list, m.state); got != nearest {
			t.Errorf("Closest of the node %d is %d, not %d", i, got, nearest)
		}
	}
	var want []api.Handle
	for h := range m.t.Walk(root) {
		if h != root && m.matchesOne(h, list) {
			want = append(want, h)
		}
	}
	if got := selector.Query(m.t, root, list, m.state); !slices.Equal(got, want) {
		t.Errorf("Query within %d is %v, not %v", root, got, want)
	}
	return matched
}

// negations checks that each part of a selector and its negation exchange matching and not matching (P11.3).
func negations(t *testing.T, m model, h api.Handle, s selector.Selector) {
	for _, p := range s.Parts {
		plain, negated := one(part(0, p.Type, p.Tests...)), one(part(0, "", not(p.Type, p.Tests...)))
		both := selector.Match(m.t, h, plain, m.state) == selector.Match(m.t, h, negated, m.state)
		if both == m.isElement(h) {
			t.Errorf("the node %d and the negation of %s", h, selector.Format(list(plain)))
		}
	}
}

package selector_test

import (
	"fmt"
	"strings"
	"testing"

	"knapsack/api"
	"knapsack/selector"
	"knapsack/tree"
	"knapsack/treebuild"
)

// random returns a function whose results are those of a fixed sequence, each reduced to less than its argument.
func random() func(below int) int {
	state := uint64(1)
	return func(below int) int {
		state = state*6364136223846793005 + 1442695040888963407
		return int(state>>33) % below
	}
}

// salts are those with which nothing but handles may differ.
var salts = []api.Salt{{}, {Base: 10, Stride: 3}, {Base: 1000, Stride: 1000}, {Base: -7, Stride: 77}}

// list, one, part, called and compared shorten the writing of selectors.
func list(selectors ...selector.Selector) []selector.Selector { return selectors }

func one(parts ...selector.Part) selector.Selector { return selector.Selector{Parts: parts} }

func part(join int, name string, tests ...selector.Test) selector.Part {
	return selector.Part{Join: join, Type: name, Tests: tests}
}

func called(kind int, name string) selector.Test { return selector.Test{Kind: kind, Name: name} }

func compared(kind int, name, value string) selector.Test {
	return selector.Test{Kind: kind, Name: name, Value: value}
}

func nth(a, b int) selector.Test { return selector.Test{Kind: selector.Nth, A: a, B: b} }

func not(name string, tests ...selector.Test) selector.Test {
	return selector.Test{Kind: selector.Not, Name: name, Not: tests}
}

// show writes all of a list of selectors that counts.
func show(list []selector.Selector) string {
	var lines []string
	for _, s := range list {
		line := "selector"
		for _, p := range s.Parts {
			line += fmt.Sprintf(" %d %q%s", p.Join, p.Type, showTests(p.Tests))
		}
		lines = append(lines, line)
	}
	return strings.Join(lines, "\n")
}

func showTests(tests []selector.Test) string {
	s := ""
	for _, x := range tests {
		s += fmt.Sprintf(" {%d %q %q %d %d%s}", x.Kind, x.Name, x.Value, x.A, x.B, showTests(x.Not))
	}
	return s
}

// parse returns the selectors of a text that is a list.
func parse(t *testing.T, s string) []selector.Selector {
	t.Helper()
	list, e := selector.Parse(s)
	if e != api.OK {
		t.Fatalf("Parse(%.200q) returns the error %d", s, e)
	}
	return list
}

// site is a document whose elements are named by their attributes id.
type site struct {
	*testing.T
	t     *tree.Tree
	state selector.State
}

func newSite(t *testing.T, salt api.Salt, markup string) *site {
	return &site{T: t, t: treebuild.Build(markup, salt)}
}

// at returns the element with that id.
func (x *site) at(id string) api.Handle {
	x.Helper()
	for h := range x.t.Nodes.All() {
		if value, ok := x.t.Attr(h, "id"); ok && value == id {
			return h
		}
	}
	x.Fatalf("there is no element %q", id)
	return 0
}

// ids returns the ids of elements, or their names if they have none.
func (x *site) ids(handles []api.Handle) string {
	var words []string
	for _, h := range handles {
		n, _ := x.t.Node(h)
		id, ok := x.t.Attr(h, "id")
		if !ok {
			id = n.Name
		}
		words = append(words, id)
	}
	return strings.Join(words, " ")
}

// finds checks that the elements of the document that match a list of selectors are those with these ids. All functions that match are asked.
func (x *site) finds(s, want string) {
	x.Helper()
	x.findsParsed(parse(x.T, s), s, want)
}

func (x *site) findsParsed(list []selector.Selector, s, want string) {
	x.Helper()
	if got := x.ids(selector.Query(x.t, x.t.Root, list, x.state)); got != want {
		x.Errorf("%s matches %q, not %q", s, got, want)
	}
	var matched []api.Handle
	for h := range x.t.Walk(x.t.Root) {
		if x.matchesOne(h, list) {
			matched = append(matched, h)
		}
		nearest := h
		for n, _ := x.t.Node(nearest); nearest != 0 && !x.matchesOne(nearest, list); n, _ = x.t.Node(nearest) {
			nearest = n.Parent
		}
		if got := selector.Closest(x.t, h, list, x.state); got != nearest {
			x.Errorf("%s: the Closest of %d is %d, not %d", s, h, got, nearest)
		}
	}
	if got := x.ids(matched); got != want {
		x.Errorf("%s: Match accepts %q, not %q", s, got, want)
	}
}

// matchesOne reports whether a node matches one of the selectors.
func (x *site) matchesOne(h api.Handle, list []selector.Selector) bool {
	for _, s := range list {
		if selector.Match(x.t, h, s, x.state) {
			return true
		}
	}
	return false
}

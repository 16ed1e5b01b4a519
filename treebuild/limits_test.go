package treebuild_test

import (
	"fmt"
	"slices"
	"strings"
	"testing"

	"knapsack/api"
	"knapsack/markup"
	"knapsack/tree"
	"knapsack/treebuild"
)

// nested returns so many elements, each within the one before, as look writes them, around the innermost ones.
func nested(name string, levels int, inner string) string {
	if inner != "" {
		inner = "(" + inner + ")"
	}
	for range levels {
		inner = "(" + name + inner + ")"
	}
	return inner[1 : len(inner)-1]
}

// levels is the number of elements that fit into each other within a body.
const levels = api.MaxDepth - 3

func divs(count int) string { return strings.Repeat("<div>", count) }

func TestDepth(t *testing.T) {
	fills(t, divs(levels), nested("div", levels, ""))
	fills(t, divs(levels)+"<p>x<!--c--><b>y", nested("div", levels, ""))
	fills(t, divs(500)+"x", nested("div", levels, ""))
	fills(t, divs(levels-1)+"x<b>y</b>z", nested("div", levels-1, `"x" b "z"`))
	// An element that is refused is not open: its end tag does not close it.
	fills(t, divs(levels)+"<p><x></x></div>y", nested("div", levels-1, `div "y"`))
	fills(t, divs(levels)+"</p></div>y", nested("div", levels-1, `div "y"`))
	fills(t, divs(levels-1)+"<script>x</script>y", nested("div", levels-1, `script "y"`))
	fills(t, divs(levels)+"<script>x</script></div>y", nested("div", levels-1, `div "y"`))
	// What a rule has done before the refusal remains.
	fills(t, divs(levels-2)+"<table><td>x</table>y", nested("div", levels-2, `"x" table(tbody) "y"`))
	fills(t, divs(levels-3)+"<table><td>x</table>y", nested("div", levels-3, `"x" table(tbody(tr)) "y"`))
	fills(t, divs(levels-1)+"<p>x<div>y</div>z", nested("div", levels-1, `p div "z"`))
	fills(t, strings.Repeat("<b>", levels-1)+"<table><i>x", nested("b", levels-1, "i table"))
}

func TestReopenAtDepth(t *testing.T) {
	s := newSite(t)
	s.feed(divs(levels-3) + "<p><b><i></p>")
	open := "html body" + strings.Repeat(" div", levels-3)
	s.has(open, "b i", "#(html(head body("+nested("div", levels-3, "p(b(i))")+")))")
	// Of two that are to be opened again, the second one is refused, and then the text does not follow.
	s.feed("<div><div>x<!---->")
	s.has(open+" div div b", "", "#(html(head body("+nested("div", levels-3, "p(b(i)) div(div(b))")+")))")
	s.feed("</b>y<!---->")
	s.has(open+" div div", "", "#(html(head body("+nested("div", levels-3, `p(b(i)) div(div(b "y" !))`)+")))")
}

func TestNodes(t *testing.T) {
	x := treebuild.Build(strings.Repeat("<p>", api.MaxNodes), api.Salt{})
	body := first(x, "body")
	if got := len(x.Kids(body)); got != api.MaxNodes-4 || x.Nodes.Len() != api.MaxNodes || !x.Valid() {
		t.Error("the body has", got, "children")
	}
}

// fill makes detached nodes until there is room for only so many more.
func (s *site) fill(room int) {
	s.Helper()
	for s.t.Nodes.Len() < api.MaxNodes-room {
		if _, e := s.t.Make(tree.Comment, "", "", nil); e != api.OK {
			s.Fatal("Make returns the error", e)
		}
	}
}

func TestNoRoom(t *testing.T) {
	s := newSite(t)
	s.feed("<p>x</x>")
	s.fill(0)
	// A text is still appended to the text before it.
	s.feed("y<b></x>z<p><!--a--><td><br></x>w<!---->")
	s.has("html body", "", `#(html(head body(p("xyz"))))`)
	s = newSite(t)
	s.feed("<table>")
	s.fill(1)
	s.feed("<td>x<tr>y<!---->")
	s.has("html body table tbody", "", `#(html(head body(table(tbody))))`)
}

// Also elements that are opened again need room.
func TestNodesOfReopen(t *testing.T) {
	for room, want := range map[int]string{0: "p(b(i))", 1: "p(b(i)) b", 2: "p(b(i)) b(i)", 3: `p(b(i)) b(i("x"))`} {
		s := newSite(t)
		s.feed("<p><b><i></p>")
		s.fill(room)
		s.feed("x<!---->")
		open := map[int]string{0: "html body", 1: "html body b"}[room]
		if open == "" {
			open = "html body b i"
		}
		s.has(open, "", "#(html(head body("+want+")))")
	}
}

// Comments may leave no room for html, head or body: such a document is finished without them.
func TestNodesOfFrame(t *testing.T) {
	for room, want := range map[int]string{0: "#", 1: "#(html)", 2: "#(html(head))", 3: "#(html(head body))"} {
		s := newSite(t)
		s.fill(room)
		s.feed("x</p></br><p><meta><td><b></b>")
		s.b.Finish()
		if event := s.b.Step(s.t); event.Kind != treebuild.Finished || !s.b.Done {
			t.Errorf("with room for %d nodes there is %+v at the end", room, event)
		}
		if event := s.b.Step(s.t); event.Kind != treebuild.Finished || len(event.Records) != 0 {
			t.Errorf("with room for %d nodes there is %+v behind the end", room, event)
		}
		s.has("", "", want)
	}
}

func TestRefusedTextsAndValues(t *testing.T) {
	// Each of these bytes is stored as three.
	long := strings.Repeat("\xFF", api.MaxString/3+1)
	repaired := strings.Repeat("�", api.MaxString/3)
	for s, want := range map[string]string{
		"<p a=" + long + ">x":                    `#(html(head body("x")))`,
		"<html a=" + long + "><html b=c>x":       `#(html(b=c head body("x")))`,
		"<head a=" + long + "><head b=c>":        `#(html(head(b=c) body))`,
		"<body a=" + long + "><body b=c>x":       `#(html(head body(b=c "x")))`,
		"<html><html a=" + long + " b=c>":        `#(html(b=c head body))`,
		"<body><body b=c a=" + long + " d=e>":    `#(html(head body(b=c d=e)))`,
		"<link a=" + long + "><meta>":            `#(html(head(meta) body))`,
		"<!--" + long + "-->x":                   `#(html(head body("x")))`,
		"x<b>" + long + "</b>y":                  `#(html(head body("x" b "y")))`,
		"<table><tr a=" + long + "><td>x":        `#(html(head body(table(tbody(tr(td("x")))))))`,
		"a" + long[1:] + "</x>" + "b</x>c<br>d":  `#(html(head body("a` + repaired + `" br "d")))`,
		"ab" + long[2:] + "</x>" + "c</x>d<br>e": `#(html(head body("ab` + repaired[3:] + `cd" br "e")))`,
	} {
		builds(t, s, want)
	}
}

// The text that is refused does not take the one before it along.
func TestRefusedAppend(t *testing.T) {
	s := newSite(t)
	s.feed(strings.Repeat("x", 600000) + "</x>")
	before := s.t.Nodes.Len()
	events := s.feed(strings.Repeat("\xFF", 200000) + "</x>y<br>")
	if len(events) != 4 || len(events[0].Records) != 0 || events[0].Kind != treebuild.Built {
		t.Errorf("there are %d events, the first one with the records %v", len(events), events[0].Records)
	}
	if got := s.t.Content(s.t.Root); got != strings.Repeat("x", 600000)+"y" || s.t.Nodes.Len() != before+1 {
		t.Errorf("the content has %d bytes, and there are %d nodes", len(got), s.t.Nodes.Len())
	}
}

func TestAttributes(t *testing.T) {
	attrs := func(from, to int) string {
		var b strings.Builder
		for i := from; i < to; i++ {
			fmt.Fprintf(&b, " a%d=%d", i, i)
		}
		return b.String()
	}
	for _, name := range []string{"html", "body"} {
		x := treebuild.Build("<"+name+attrs(0, 60)+"><"+name+attrs(50, 70)+"><"+name+" b=c>", api.Salt{})
		n, _ := x.Node(first(x, name))
		if got := len(n.Attrs); got != api.MaxAttrs || n.Attrs[59].Name != "a59" || n.Attrs[63].Name != "a63" || !x.Valid() {
			t.Errorf("%s has %d attributes, the last one %v", name, got, n.Attrs[got-1])
		}
	}
	fills(t, "<p"+attrs(0, 3)+" a1=x>", "p(a0=0 a1=1 a2=2)")
}

// What is refused leaves the arena, so that its place is free again.
func TestRefusedNodesAreDropped(t *testing.T) {
	s := newSite(t)
	s.feed(divs(levels))
	before := s.t.Nodes.Len()
	events := s.feed("<p>x<!--y--></p><b><td><link></br><style></style>z<br>")
	if s.t.Nodes.Len() != before {
		t.Error("there are", s.t.Nodes.Len(), "nodes, not", before)
	}
	for _, event := range events {
		if event.Kind != treebuild.Built || event.Node != 0 || len(event.Records) != 0 {
			t.Errorf("a refused insertion has the event %+v", event)
		}
	}
}

func TestNoTree(t *testing.T) {
	var b treebuild.Builder
	b.Feed("<html a=1><p>x<table>y<td><script>z</script></p></br><!---->")
	for b.Step(nil).Kind != treebuild.Wait {
	}
	b.Finish()
	if event := b.Step(nil); event.Kind != treebuild.Finished {
		t.Errorf("without a tree there is %+v at the end", event)
	}
	for _, x := range []*tree.Tree{{}, {Root: 5}, {Root: -1}} {
		var b treebuild.Builder
		b.Feed("<html a=1><p>x<table>y<td><script>z</script></p></br><!---->")
		b.Finish()
		for b.Step(x).Kind != treebuild.Finished {
		}
		if x.Nodes.Len() != 0 {
			t.Error("a tree without a root has", x.Nodes.Len(), "nodes")
		}
	}
}

// Whatever the fields of a builder are, and wherever scripts have moved its elements to, the construction ends, and the tree is one.
func TestAnyBuilder(t *testing.T) {
	next := random()
	for range 5000 {
		x := treebuild.Build(randomDocument(next, 20), api.Salt{})
		handle := func() api.Handle { return next(x.Nodes.Len()+4) - 1 }
		list := func() []api.Handle {
			var list []api.Handle
			for range next(7) {
				list = append(list, handle())
			}
			return list
		}
		b := treebuild.Builder{Html: handle(), Head: handle(), Body: handle(), Open: list(), Reopen: list(), Size: next(3) - 1}
		if next(3) == 0 {
			b.Queue = []markup.Token{{}, {Kind: -1}, {Kind: markup.Start}, {Kind: markup.Start, Name: "A b"}, {Kind: markup.End}, {Kind: markup.Text}, {Kind: markup.Comment}, {Kind: markup.Start, Name: "p", Attrs: []api.Attr{{}, {}}}}
			b.Ended = true
		}
		b.Feed(randomDocument(next, 20))
		for b.Step(x).Kind != treebuild.Wait && !b.Done {
			if next(4) == 0 {
				x.Insert(handle(), handle(), 0)
				x.Remove(handle())
			}
		}
		b.Finish()
		for b.Step(x).Kind != treebuild.Finished {
		}
		if !x.Valid() {
			t.Fatal("the tree is not valid:", look(x, x.Root))
		}
	}
	const lowest = -1 << 63
	for _, size := range []int{lowest, -1, api.MaxSource + 1, 1<<63 - 1} {
		b := treebuild.Builder{Size: size}
		b.Feed("<p>x")
		b.Finish()
	}
}

// A copy of the builder goes on by itself, with a copy of the tree.
func TestCopiesOfBuilder(t *testing.T) {
	next := random()
	for range 500 {
		s := randomDocument(next, 30)
		var b treebuild.Builder
		x := tree.New(api.Salt{})
		b.Feed(s)
		b.Finish()
		for !b.Done {
			c, y := b, tree.Tree{Nodes: x.Nodes.Clone(), Root: x.Root}
			for c.Step(&y).Kind != treebuild.Finished {
			}
			if got, want := look(&y, y.Root), look(treebuild.Build(s, api.Salt{}), 1); got != want {
				t.Fatalf("a copy of the builder of %q makes %s, not %s", s, got, want)
			}
			b.Step(x)
		}
		if got, want := look(x, x.Root), look(treebuild.Build(s, api.Salt{}), 1); got != want {
			t.Fatalf("a builder that was copied makes of %q %s, not %s", s, got, want)
		}
	}
}

// Tokens that are not processed yet are not changed, and neither is what was returned.
func TestResultsAreNewMemory(t *testing.T) {
	var b treebuild.Builder
	x := tree.New(api.Salt{})
	b.Feed("<p a=b>x<table>y<td c=d>z")
	b.Finish()
	queue := slices.Clone(b.Queue)
	var events []treebuild.Event
	var copies [][]tree.Record
	for !b.Done {
		event := b.Step(x)
		events = append(events, event)
		copies = append(copies, slices.Clone(event.Records))
	}
	for i := range events {
		if !slices.Equal(events[i].Records, copies[i]) {
			t.Error("the records of step", i, "have changed")
		}
	}
	for _, token := range queue {
		for i := range token.Attrs {
			token.Attrs[i].Value = "changed"
		}
	}
	if got, want := look(x, x.Root), `#(html(head body(p(a=b "x") "y" table(tbody(tr(td(c=d "z")))))))`; got != want {
		t.Errorf("there is %s, not %s", got, want)
	}
}

package treebuild_test

import (
	"slices"
	"strings"
	"testing"

	"knapsack/api"
	"knapsack/tree"
	"knapsack/treebuild"
)

// pieced builds a document that is fed in pieces, with as many steps after each piece as steps says; it returns the tree, and the events that are none of Wait.
func pieced(pieces []string, steps func() int) (*tree.Tree, []treebuild.Event) {
	t := tree.New(api.Salt{Base: 10, Stride: 3})
	var b treebuild.Builder
	var events []treebuild.Event
	step := func() int {
		event := b.Step(t)
		if event.Kind != treebuild.Wait {
			events = append(events, event)
		}
		return event.Kind
	}
	for _, piece := range pieces {
		b.Feed(piece)
		for range steps() {
			step()
		}
	}
	b.Finish()
	for step() != treebuild.Finished {
	}
	return t, events
}

func sameEvent(a, b treebuild.Event) bool {
	return a.Kind == b.Kind && a.Node == b.Node && slices.Equal(a.Records, b.Records)
}

// checkPieces checks that a document has the same tree and the same events, in pieces and as a whole.
func checkPieces(t *testing.T, pieces []string, steps func() int) {
	t.Helper()
	s := strings.Join(pieces, "")
	x, events := pieced([]string{s}, func() int { return 0 })
	y, others := pieced(pieces, steps)
	if got, want := look(y, y.Root), look(x, x.Root); got != want {
		t.Errorf("in the pieces %q there is %s, not %s", pieces, got, want)
	}
	if !slices.EqualFunc(events, others, sameEvent) {
		t.Errorf("in the pieces %q the events are %v, not %v", pieces, others, events)
	}
	z := treebuild.Build(s, api.Salt{})
	if !tree.Same(x, x.Root, z, z.Root) {
		t.Errorf("Build(%q) is %s, not %s", s, look(z, z.Root), look(x, x.Root))
	}
}

// pieceDocuments have constructs, references, line ends and characters that a piece may end in.
func pieceDocuments() []string {
	return []string{
		"",
		"<!doctype html><html a='1'><head><title>a &lt; b</title></head><body b=2><p>x<p>y",
		"<table>a\r\nb<td c=\"d\">e</td>\r</table>é€\xF0\x9F\x98\x80<br/>",
		"<script>if (a</b) x</script><style>p{}</style><link rel=x><meta>",
		"a<!-- b --><b>c<i>d</b>e</>f</ g>h&amp;&#65;i<",
		"<ul><li>1<li>2</ul><textarea>\xE2\x82<x></textarea>\xFF<p",
		"<p><b><a>x<div>y</p>z<!--",
	}
}

func TestTwoPieces(t *testing.T) {
	for _, s := range pieceDocuments() {
		for at := range len(s) + 1 {
			for steps := range 5 {
				checkPieces(t, []string{s[:at], s[at:]}, func() int { return steps })
			}
		}
	}
}

func TestBytesAsPieces(t *testing.T) {
	next := random()
	for _, s := range pieceDocuments() {
		var pieces []string
		for i := range len(s) {
			pieces = append(pieces, s[i:i+1])
		}
		checkPieces(t, pieces, func() int { return 0 })
		checkPieces(t, pieces, func() int { return 3 })
		checkPieces(t, pieces, func() int { return next(3) })
	}
}

func TestAnyPieces(t *testing.T) {
	next := random()
	for range 2000 {
		s := randomDocument(next, 30)
		var pieces []string
		for s != "" {
			size := min(1+next(12), len(s))
			pieces = append(pieces, s[:size])
			s = s[size:]
		}
		checkPieces(t, pieces, func() int { return next(4) })
	}
}

// What is fed has one bound, however it is divided.
func TestPiecesBeyondMaxSource(t *testing.T) {
	within := strings.Repeat("<!--"+strings.Repeat("c", 993)+"-->", 1000)
	within += strings.Repeat("x", api.MaxSource-len(within)-2)
	for _, pieces := range [][]string{
		{within + "yz<p>"},
		{within, "yz<p>"},
		{within + "y", "z", "<p>"},
		{within[:1000], within[1000:] + "yz", "", "<p>"},
		{within + "y", "zabc<p>"},
	} {
		var b treebuild.Builder
		x := tree.New(api.Salt{})
		for _, piece := range pieces {
			b.Feed(piece)
		}
		if b.Size != api.MaxSource {
			t.Error("Size is", b.Size)
		}
		b.Finish()
		for b.Step(x).Kind != treebuild.Finished {
		}
		if got := x.Content(x.Root); !strings.HasSuffix(got, "xyz") || strings.Contains(got, "p") || names(x, x.Kids(b.Body)) != "?" {
			t.Errorf("the document ends with %q", got[max(0, len(got)-10):])
		}
	}
}

// A character that the bound cuts is as incomplete as one that the document ends in.
func TestMaxSourceCutsCharacter(t *testing.T) {
	for room, want := range map[int]string{0: "", 1: "x", 2: "x\uFFFD", 3: "x\uFFFD\uFFFD", 4: "x€", 5: "x€y"} {
		s := "<!--" + strings.Repeat("c", api.MaxSource-room-7) + "-->x€y<b>"
		x := treebuild.Build(s, api.Salt{})
		if got := x.Content(x.Root); got != want {
			t.Errorf("with room for %d bytes, the content is %q, not %q", room, got, want)
		}
	}
}

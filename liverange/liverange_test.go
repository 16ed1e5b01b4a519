package liverange_test

import (
	"math"
	"slices"
	"strings"
	"testing"

	"knapsack/api"
	"knapsack/liverange"
	"knapsack/tree"
	"knapsack/treebuild"
)

// sample has nodes of all kinds, nested and empty.
const sample = "#({c} html(head body('ab' p(b('é€') i {de}) '' 'f')))"

// P10.1: a new range is collapsed at its point, and has the next number.
func TestCreate(t *testing.T) {
	for _, salt := range salts {
		x := newSite(t, salt, sample)
		// The greatest index is the number of children, or of code points.
		number := 0
		for word, last := range map[string]int{"html": 2, "head": 0, "body": 4, "p": 3, "i": 0, "ab": 2, "é€": 2, "": 0, "c": 1, "de": 2} {
			for index := range last + 1 {
				at := x.point(word, index)
				id, e := x.s.Create(x.t, at)
				x.is("Create", e, api.OK)
				number++
				r, e := x.s.Range(id)
				if want := (liverange.Range{Id: number, Start: at, End: at}); r != want || e != api.OK || x.s.Last != number {
					t.Errorf("Create(%+v) makes the range %+v, error %d, not %+v", at, r, e, want)
				}
			}
			x.refuses(x.point(word, last+1), api.ErrRange)
			x.refuses(x.point(word, math.MaxInt), api.ErrRange)
			x.refuses(x.point(word, -1), api.ErrRange)
			x.refuses(x.point(word, math.MinInt), api.ErrRange)
		}
		x.refuses(liverange.Point{Node: x.t.Root, Index: 3}, api.ErrRange)
		for _, index := range []int{0, 1, -1, 99} {
			x.refuses(liverange.Point{Node: 0, Index: index}, api.ErrNone)
			x.refuses(liverange.Point{Node: 1 << 40, Index: index}, api.ErrNone)
		}
		if !x.s.Valid(x.t) {
			t.Errorf("%+v is not valid", x.s)
		}
	}
}

// refuses checks that a point is refused by the three functions that take one for a range.
func (x *site) refuses(at liverange.Point, want api.Errno) {
	x.Helper()
	x.stays("a refused point", func() {
		id, e := x.s.Create(x.t, at)
		x.is("Create", e, want)
		if id != 0 {
			x.Errorf("Create returns the number %d with an error", id)
		}
		if len(x.s.Ranges) > 0 {
			x.is("SetStart", x.s.SetStart(x.t, x.s.Ranges[0].Id, at), want)
			x.is("SetEnd", x.s.SetEnd(x.t, x.s.Ranges[0].Id, at), want)
		}
	})
}

// P10.1: numbers are given in ascending order to ranges and iterators, and never again.
func TestNumbers(t *testing.T) {
	x := newSite(t, api.Salt{}, "p('abc')")
	p := x.point("p", 0)
	want := 0
	number := func(id int, e api.Errno) {
		t.Helper()
		want++
		if id != want || e != api.OK || x.s.Last != want || !x.s.Valid(x.t) {
			t.Errorf("the number is %d, Last %d, not %d (error %d)", id, x.s.Last, want, e)
		}
	}
	number(x.s.Create(x.t, p))
	number(x.s.Iterate(x.t, p.Node))
	number(x.s.Create(x.t, p))
	number(x.s.Create(x.t, p))
	number(x.s.Iterate(x.t, p.Node))
	x.is("Drop", x.s.Drop(5), api.OK)
	number(x.s.Iterate(x.t, p.Node))
	x.is("Drop", x.s.Drop(3), api.OK)
	x.is("Drop", x.s.Drop(1), api.OK)
	x.is("Drop", x.s.Drop(2), api.OK)
	number(x.s.Create(x.t, p))
	ranges := []liverange.Range{{Id: 4, Start: p, End: p}, {Id: 7, Start: p, End: p}}
	iterators := []liverange.Iterator{{Id: 6, Root: p.Node, Ref: p.Node, Before: true}}
	if !slices.Equal(x.s.Ranges, ranges) || !slices.Equal(x.s.Iterators, iterators) {
		t.Errorf("the set is %+v", x.s)
	}
}

// P10.1: a number that no range has, or no iterator, is refused ahead of all else.
func TestNoSuchNumber(t *testing.T) {
	x := newSite(t, api.Salt{}, "p('a[b]c')")
	id, _ := x.s.Iterate(x.t, x.at("p"))
	dropped, _ := x.s.Create(x.t, x.point("p", 0))
	x.s.Drop(dropped)
	good, bad := x.point("p", 1), liverange.Point{Node: x.at("p"), Index: 9}
	for _, number := range []int{0, -1, 99, math.MinInt, id, dropped} {
		x.stays("a number that no range has", func() {
			r, e := x.s.Range(number)
			x.is("Range", e, api.ErrNone)
			x.is("SetStart", x.s.SetStart(x.t, number, good), api.ErrNone)
			x.is("SetStart", x.s.SetStart(x.t, number, bad), api.ErrNone)
			x.is("SetEnd", x.s.SetEnd(x.t, number, good), api.ErrNone)
			x.is("SetEnd", x.s.SetEnd(x.t, number, bad), api.ErrNone)
			text, e := x.s.Text(x.t, number)
			x.is("Text", e, api.ErrNone)
			records, e := x.s.Delete(x.t, number)
			x.is("Delete", e, api.ErrNone)
			if r != (liverange.Range{}) || text != "" || len(records) != 0 {
				t.Errorf("with an error, %+v, %q and %+v are returned", r, text, records)
			}
		})
	}
	for _, number := range []int{0, -1, 99, math.MinInt, 1, dropped} {
		x.stays("a number that no iterator has", func() {
			h, e := x.s.Next(x.t, number)
			x.is("Next", e, api.ErrNone)
			g, e := x.s.Back(x.t, number)
			x.is("Back", e, api.ErrNone)
			if h != 0 || g != 0 {
				t.Errorf("with an error, %d and %d are returned", h, g)
			}
			if number != 1 {
				x.is("Drop", x.s.Drop(number), api.ErrNone)
			}
		})
	}
}

// P10.1: the other boundary follows if it is in another tree, or the order would be wrong.
func TestSetBoundaries(t *testing.T) {
	const before = "p('a[b' b('cd') 'e]f' i)"
	sets := func(word string, index int, start, end string) {
		t.Helper()
		for _, salt := range salts {
			x := newSite(t, salt, before)
			x.is("SetStart", x.s.SetStart(x.t, 1, x.point(word, index)), api.OK)
			x.looks("SetStart", start)
			x = newSite(t, salt, before)
			x.is("SetEnd", x.s.SetEnd(x.t, 1, x.point(word, index)), api.OK)
			x.looks("SetEnd", end)
		}
	}
	sets("p", 0, "p([ 'ab' b('cd') 'e]f' i)", "p([] 'ab' b('cd') 'ef' i)")
	sets("ab", 0, "p('[ab' b('cd') 'e]f' i)", "p('[]ab' b('cd') 'ef' i)")
	sets("ab", 1, "p('a[b' b('cd') 'e]f' i)", "p('a[]b' b('cd') 'ef' i)")
	sets("ab", 2, "p('ab[' b('cd') 'e]f' i)", "p('a[b]' b('cd') 'ef' i)")
	sets("p", 1, "p('ab' [ b('cd') 'e]f' i)", "p('a[b' ] b('cd') 'ef' i)")
	sets("b", 0, "p('ab' b([ 'cd') 'e]f' i)", "p('a[b' b(] 'cd') 'ef' i)")
	sets("cd", 1, "p('ab' b('c[d') 'e]f' i)", "p('a[b' b('c]d') 'ef' i)")
	sets("p", 2, "p('ab' b('cd') [ 'e]f' i)", "p('a[b' b('cd') ] 'ef' i)")
	sets("ef", 1, "p('ab' b('cd') 'e[]f' i)", "p('a[b' b('cd') 'e]f' i)")
	sets("ef", 2, "p('ab' b('cd') 'ef[]' i)", "p('a[b' b('cd') 'ef]' i)")
	sets("p", 3, "p('ab' b('cd') 'ef' [] i)", "p('a[b' b('cd') 'ef' ] i)")
	sets("i", 0, "p('ab' b('cd') 'ef' i([]))", "p('a[b' b('cd') 'ef' i(]))")
	sets("p", 4, "p('ab' b('cd') 'ef' i [])", "p('a[b' b('cd') 'ef' i ])")
}

func TestSetBoundariesInAnotherTree(t *testing.T) {
	for _, salt := range salts {
		x := newSite(t, salt, "p('a[b]c')")
		other := x.plant("q('d' u)")
		x.is("SetStart", x.s.SetStart(x.t, 1, liverange.Point{Node: other, Index: 1}), api.OK)
		x.looks("SetStart", "q('d' [] u)")
		x.is("SetEnd", x.s.SetEnd(x.t, 1, x.point("abc", 2)), api.OK)
		x.looks("SetEnd", "p('ab[]c')")
		// A document and a detached tree are different trees, too.
		x.is("SetEnd", x.s.SetEnd(x.t, 1, liverange.Point{Node: x.t.Root}), api.OK)
		x.looks("SetEnd", "#([])")
		x.is("SetStart", x.s.SetStart(x.t, 1, x.point("u", 0)), api.OK)
		x.looks("SetStart", "q('d' u([]))")
	}
}

// The other ranges of a set stay where they are.
func TestSetBoundariesOfOne(t *testing.T) {
	x := newSite(t, api.Salt{}, "p('a[b]c')")
	p := x.point("p", 0)
	x.s.Create(x.t, p)
	x.s.Create(x.t, p)
	x.is("SetEnd", x.s.SetEnd(x.t, 2, x.point("p", 1)), api.OK)
	want := []liverange.Range{x.get(), {Id: 2, Start: p, End: x.point("p", 1)}, {Id: 3, Start: p, End: p}}
	if !slices.Equal(x.s.Ranges, want) {
		t.Errorf("the ranges are %+v, not %+v", x.s.Ranges, want)
	}
	x.looks("SetEnd of another one", "p('a[b]c')")
}

func TestDrop(t *testing.T) {
	x := newSite(t, api.Salt{}, "p('a')")
	for range 3 {
		x.s.Create(x.t, x.point("p", 0))
		x.s.Iterate(x.t, x.at("p"))
	}
	ranges, iterators := slices.Clone(x.s.Ranges), slices.Clone(x.s.Iterators)
	for _, id := range []int{3, 4, 1, 6, 5, 2} {
		x.is("Drop", x.s.Drop(id), api.OK)
		x.is("Drop", x.s.Drop(id), api.ErrNone)
		ranges = slices.DeleteFunc(ranges, func(r liverange.Range) bool { return r.Id == id })
		iterators = slices.DeleteFunc(iterators, func(it liverange.Iterator) bool { return it.Id == id })
		if !slices.Equal(x.s.Ranges, ranges) || !slices.Equal(x.s.Iterators, iterators) || x.s.Last != 6 {
			t.Errorf("after Drop(%d) the set is %+v", id, x.s)
		}
	}
}

// P10.1: points are compared as the document orders them.
func TestCompare(t *testing.T) {
	for _, salt := range salts {
		x := newSite(t, salt, "p('ab' b('c' i) {d} u)")
		x.plant("q('x')")
		list := []liverange.Point{
			x.point("p", 0), x.point("ab", 0), x.point("ab", 1), x.point("ab", 2),
			x.point("p", 1), x.point("b", 0), x.point("c", 0), x.point("c", 1), x.point("b", 1), x.point("i", 0), x.point("b", 2),
			x.point("p", 2), x.point("d", 0), x.point("d", 1), x.point("p", 3), x.point("u", 0), x.point("p", 4),
		}
		for i, a := range list {
			for j, b := range list {
				want := 0
				if i < j {
					want = -1
				} else if i > j {
					want = 1
				}
				if got, e := liverange.Compare(x.t, a, b); got != want || e != api.OK {
					t.Errorf("Compare(%+v, %+v) is %d, error %d, not %d", a, b, got, e, want)
				}
			}
			x.compares(a, x.point("q", 0), api.ErrNone)
			x.compares(a, x.point("x", 1), api.ErrNone)
			x.compares(a, liverange.Point{Node: x.t.Root}, api.ErrNone)
		}
	}
}

// compares checks that two points can not be compared, in whatever order.
func (x *site) compares(a, b liverange.Point, want api.Errno) {
	x.Helper()
	x.stays("Compare", func() {
		for range 2 {
			if got, e := liverange.Compare(x.t, a, b); got != 0 || e != want {
				x.Errorf("Compare(%+v, %+v) is %d, error %d, not %d", a, b, got, e, want)
			}
			a, b = b, a
		}
	})
}

func TestCompareInvalidPoints(t *testing.T) {
	x := newSite(t, api.Salt{Base: 10, Stride: 3}, "p('ab' b)")
	x.plant("q('x')")
	dropped := x.make(tree.Text, "", "z")
	x.t.Drop(dropped)
	good := x.point("p", 1)
	for _, bad := range []liverange.Point{
		{}, {Node: -1}, {Node: 1 << 40}, {Node: dropped}, {Node: 11},
		x.point("p", -1), x.point("p", 3), x.point("ab", 3), x.point("b", 1), x.point("b", math.MinInt),
		// ErrRange is named first.
		x.point("q", 2), x.point("x", -1),
	} {
		x.compares(good, bad, api.ErrRange)
		x.compares(bad, bad, api.ErrRange)
	}
}

// contents are ranges, their texts, and what is left when they are deleted, by how many records.
var contents = []struct {
	before, text, after string
	records             int
}{
	// The example of the document.
	{"p('a[b' b('cd') 'e]f')", "bcde", "p('a' [] 'f')", 3},
	// Nothing is within.
	{"p('a[]b')", "", "p('a[]b')", 0},
	{"p('[]ab')", "", "p('[]ab')", 0},
	{"p({ab[]})", "", "p({ab[]})", 0},
	{"p([] 'a')", "", "p([] 'a')", 0},
	{"p('a' [] b)", "", "p('a' [] b)", 0},
	{"p([])", "", "p([])", 0},
	{"p('ab[' ']cd')", "", "p('ab' [] 'cd')", 0},
	{"p('ab[' ] 'c')", "", "p('ab' [] 'c')", 0},
	{"p('a' [ ']bc')", "", "p('a' [] 'bc')", 0},
	{"p('ab' b([) i(]) 'c')", "", "p('ab' b [] i 'c')", 0},
	{"p(a(b([)) ] 'c')", "", "p(a(b) [] 'c')", 0},
	{"p([ a(b(])) 'c')", "", "p([] a(b) 'c')", 0},
	// Both boundaries are in one node.
	{"p('a[bc]d')", "bc", "p('a[]d')", 1},
	{"p('[ab]')", "ab", "p('[]')", 1},
	{"'a[b]c'", "b", "'a[]c'", 1},
	{"{a[b]c}", "", "{a[]c}", 1},
	{"p('é[€a]b')", "€a", "p('é[]b')", 1},
	{"p([ 'ab' b('c') {d} ])", "abc", "p([])", 3},
	{"p('x' [ 'ab' b('c') ] 'y' 'z')", "abc", "p('x' [] 'y' 'z')", 2},
	{"p('x' b([ 'a' ]) 'y')", "a", "p('x' b([]) 'y')", 1},
	// One contains the other.
	{"p([ 'ab' b('c' i 'd]e' u) 'f')", "abcd", "p([] b('e' u) 'f')", 4},
	{"p([ 'a]b')", "a", "p([] 'b')", 1},
	{"p('x' [ 'y' b(i(u('a' ] 'b')) s))", "ya", "p('x' [] b(i(u('b')) s))", 2},
	{"p(b('a[b' i) 'c' u('d') ] 'e')", "bcd", "p(b('a') [] 'e')", 4},
	{"p('a[b' ])", "b", "p('a' [])", 1},
	{"p(b(i(u('a' [ 'b') s) 'c') ])", "bc", "p(b(i(u('a'))) [])", 3},
	// They are in different branches.
	{"p(b('a[b' i('c')) 'd' u(s('e') 'f]g' s) 'h')", "bcdef", "p(b('a') [] u('g' s) 'h')", 5},
	{"p('[ab' b 'cd]')", "abcd", "p('' [] '')", 3},
	{"p('a[b' ']cd')", "b", "p('a' [] 'cd')", 1},
	{"p('ab[' 'c]d')", "c", "p('ab' [] 'd')", 1},
	{"p('ab[' b('cd') ']ef')", "cd", "p('ab' [] 'ef')", 1},
	{"p('ab' b('c' [) 'd' i(] 'e') 'f')", "d", "p('ab' b('c') [] i('e') 'f')", 1},
	{"p('a[b' b(] 'c'))", "b", "p('a' [] b('c'))", 1},
	{"p(b('a' [) 'c' 'd]e')", "cd", "p(b('a') [] 'e')", 2},
	{"p(a(b(c('x' [ 'y' 'z') i('w')) u) {v} d(e('s' f('t') ] 'r') g))", "yzwst", "p(a(b(c('x'))) [] d(e('r') g))", 7},
	{"q(p(b('a[b') 'c') s('d' i('e]f')) 'g')", "bcde", "q(p(b('a')) [] s(i('f')) 'g')", 4},
	// The data of comments are no text, but are deleted.
	{"p({a[b} 'c' {d]e})", "c", "p({a} [] {e})", 3},
	{"p({a[b} {c} 'd]e')", "d", "p({a} [] 'e')", 3},
	{"p('a[b' {c} {d]e})", "b", "p('a' [] {e})", 3},
	// Empty texts are nodes, too.
	{"p([ '' '' ] '')", "", "p([] '')", 2},
	{"p('[' '' ']')", "", "p('' [] '')", 1},
	// Documents.
	{"#([ {a} html(p('b')) ])", "b", "#([])", 2},
	{"#({a[b} html('c') {d]e})", "c", "#({a} [] {e})", 3},
	{"#({a} [ html(head('b') body('c]d')))", "bc", "#({a} [] html(body('d')))", 2},
	{"#(html([ head body('a' b('c]d'))))", "ac", "#(html([] body(b('d'))))", 3},
}

// P10.1: Text is what is within a range.
func TestText(t *testing.T) {
	for _, c := range contents {
		for _, salt := range salts {
			x := newSite(t, salt, c.before)
			x.stays("Text", func() {
				if got, e := x.s.Text(x.t, 1); got != c.text || e != api.OK {
					t.Errorf("the text of %s is %q, error %d, not %q", c.before, got, e, c.text)
				}
			})
		}
	}
}

// P10.1, P10.3: Delete removes what is within a range, and leaves a point.
func TestDelete(t *testing.T) {
	for _, c := range contents {
		for _, salt := range salts {
			x := newSite(t, salt, c.before)
			top := x.t.Top(x.get().Start.Node)
			content := x.t.Content(top)
			records, e := x.s.Delete(x.t, 1)
			x.is("Delete", e, api.OK)
			if len(records) != c.records {
				t.Errorf("Delete of %s returns %d records, not %d: %+v", c.before, len(records), c.records, records)
			}
			x.looks("Delete of "+c.before, c.after)
			if text, e := x.s.Text(x.t, 1); text != "" || e != api.OK {
				t.Errorf("after Delete of %s its text is %q, error %d", c.before, text, e)
			}
			if !removes(content, c.text, x.t.Content(top)) {
				t.Errorf("Delete of %s leaves %q of %q", c.before, x.t.Content(top), content)
			}
		}
	}
}

// removes reports whether one removes a part from a text in some place to get the rest.
func removes(whole, part, rest string) bool {
	for i := range len(rest) + 1 {
		if rest[:i]+part+rest[i:] == whole {
			return true
		}
	}
	return false
}

// P10.1: the records come in the order of the document, and describe the mutations.
func TestRecordsOfDelete(t *testing.T) {
	x := newSite(t, api.Salt{Base: 10, Stride: 3}, "q(p('a[bc' b('d') {e}) 'f' s(i 'gh]i'))")
	p, abc, b, e, f, s, i, ghi := x.at("p"), x.at("abc"), x.at("b"), x.at("e"), x.at("f"), x.at("s"), x.at("i"), x.at("ghi")
	q := x.at("q")
	records, _ := x.s.Delete(x.t, 1)
	want := []tree.Record{
		{Kind: tree.Data, Target: abc, Index: 1, Count: 2, Old: "abc"},
		{Kind: tree.Removed, Target: p, Node: b, Prev: abc, Next: e, Index: 1},
		{Kind: tree.Removed, Target: p, Node: e, Prev: abc, Index: 1},
		{Kind: tree.Removed, Target: q, Node: f, Prev: p, Next: s, Index: 1},
		{Kind: tree.Removed, Target: s, Node: i, Next: ghi},
		{Kind: tree.Data, Target: ghi, Count: 2, Old: "ghi"},
	}
	if !slices.Equal(records, want) {
		t.Errorf("the records are\n%+v, not\n%+v", records, want)
	}
	// What was removed stays in the arena as it was.
	if got := x.show(b, liverange.Range{}); got != "b('d')" {
		t.Errorf("%s was removed", got)
	}
	if n, _ := x.t.Node(e); n.Parent != 0 {
		t.Errorf("%+v was not removed", n)
	}
}

// P10.1: Delete adjusts the other ranges and the iterators, as Update does with its records in another set.
func TestDeleteAdjusts(t *testing.T) {
	x := newSite(t, api.Salt{}, "p('a[bc' b('d') 'ef]g' 'h')")
	other := liverange.Set{}
	refs := []string{"d", "h", "b"}
	for _, s := range []*liverange.Set{&x.s, &other} {
		s.Create(x.t, x.point("abc", 3))
		id, _ := s.Create(x.t, x.point("d", 1))
		s.SetEnd(x.t, id, x.point("h", 1))
		id, _ = s.Create(x.t, x.point("p", 0))
		s.SetEnd(x.t, id, x.point("efg", 3))
		s.Create(x.t, x.point("p", 3))
		for range refs {
			s.Iterate(x.t, x.at("p"))
		}
		for i, word := range refs {
			s.Iterators[i].Ref = x.at(word)
		}
	}
	ranges := []liverange.Range{
		{Start: x.point("abc", 1), End: x.point("abc", 1)},
		{Start: x.point("p", 1), End: x.point("h", 1)},
		{Start: x.point("p", 0), End: x.point("efg", 1)},
		{Start: x.point("p", 2), End: x.point("p", 2)},
	}
	abc, h := x.at("abc"), x.at("h")
	iterators := []liverange.Iterator{{Ref: abc}, {Ref: h, Before: true}, {Ref: abc}}
	records, _ := x.s.Delete(x.t, 1)
	other.Update(x.t, records)
	x.looks("Delete", "p('a' [] 'g' 'h')")
	for i, s := range []liverange.Set{x.s, other} {
		for j, want := range ranges {
			got := s.Ranges[j+1-i]
			if got.Start != want.Start || got.End != want.End {
				t.Errorf("the range %d of the set %d is %+v, not %+v", j, i, got, want)
			}
		}
		for j, want := range iterators {
			got := s.Iterators[j]
			if got.Ref != want.Ref || got.Before != want.Before {
				t.Errorf("the iterator %d of the set %d is %+v, not %+v", j, i, got, want)
			}
		}
		if !s.Valid(x.t) {
			t.Errorf("the set %+v is not valid", s)
		}
	}
}

// P10.2: what has no order or no place any more has no text, and nothing of it is deleted.
func TestContentsOfInvalidRanges(t *testing.T) {
	x := newSite(t, api.Salt{}, "p('abc' b('d'))")
	x.plant("q('x')")
	dropped := x.make(tree.Text, "", "z")
	x.t.Drop(dropped)
	for _, r := range []liverange.Range{
		{Start: x.point("abc", 2), End: x.point("abc", 1)},
		{Start: x.point("d", 0), End: x.point("abc", 1)},
		{Start: x.point("abc", 2), End: x.point("x", 1)},
		{Start: x.point("p", 0), End: x.point("q", 1)},
		{Start: x.point("p", -1), End: x.point("p", 1)},
		{Start: x.point("p", 0), End: x.point("p", 3)},
		{Start: x.point("abc", -5), End: x.point("d", 9)},
		{Start: x.point("p", math.MinInt), End: x.point("p", math.MaxInt)},
		{Start: liverange.Point{Node: dropped}, End: x.point("p", 1)},
		{Start: x.point("p", 0), End: liverange.Point{Node: dropped}},
		{},
	} {
		r.Id = 1
		x.s = liverange.Set{Ranges: []liverange.Range{r}, Last: 1}
		x.stays("an invalid range", func() {
			text, e := x.s.Text(x.t, 1)
			records, f := x.s.Delete(x.t, 1)
			if text != "" || e != api.OK || len(records) != 0 || f != api.OK {
				t.Errorf("%+v has the text %q, error %d, and the records %+v, error %d", r, text, e, records, f)
			}
		})
		// It can be set right again.
		x.is("SetStart", x.s.SetStart(x.t, 1, x.point("abc", 1)), api.OK)
		x.is("SetEnd", x.s.SetEnd(x.t, 1, x.point("d", 1)), api.OK)
		x.looks("both", "p('a[bc' b('d]'))")
	}
}

func TestValid(t *testing.T) {
	x := newSite(t, api.Salt{Base: 10, Stride: 3}, "p('abc' b('d'))")
	x.plant("q('x')")
	p, a, b := x.point("p", 1), x.point("abc", 3), x.point("b", 1)
	ranges := func(list ...liverange.Range) liverange.Set { return liverange.Set{Ranges: list, Last: 9} }
	iterators := func(list ...liverange.Iterator) liverange.Set { return liverange.Set{Iterators: list, Last: 9} }
	it := liverange.Iterator{Id: 4, Root: x.at("p"), Ref: x.at("d")}
	valid := func(want bool, s liverange.Set) {
		t.Helper()
		x.s = s
		x.stays("Valid", func() {
			if x.s.Valid(x.t) != want {
				t.Errorf("Valid of %+v is not %t", s, want)
			}
		})
	}
	valid(true, liverange.Set{})
	valid(true, liverange.Set{Last: 7})
	valid(true, ranges(liverange.Range{Id: 1, Start: a, End: p}))
	valid(true, ranges(liverange.Range{Id: 3, Start: p, End: b}, liverange.Range{Id: 5, Start: a, End: a}, liverange.Range{Id: 9, Start: x.point("q", 0), End: x.point("x", 1)}))
	valid(true, iterators(it, liverange.Iterator{Id: 9, Root: x.at("q"), Ref: x.at("q"), Before: true}))
	valid(true, liverange.Set{Ranges: []liverange.Range{{Id: 3, Start: p, End: p}, {Id: 5, Start: p, End: p}}, Iterators: []liverange.Iterator{it}, Last: 5})

	// Points.
	valid(false, ranges(liverange.Range{Id: 1, Start: p, End: a}))
	valid(false, ranges(liverange.Range{Id: 1, Start: a, End: p}, liverange.Range{Id: 2, Start: b, End: a}))
	valid(false, ranges(liverange.Range{Id: 1, Start: a, End: x.point("x", 0)}))
	valid(false, ranges(liverange.Range{Id: 1, Start: x.point("p", -1), End: a}))
	valid(false, ranges(liverange.Range{Id: 1, Start: x.point("p", 0), End: x.point("p", 3)}))
	valid(false, ranges(liverange.Range{Id: 1, Start: x.point("abc", 4), End: x.point("abc", 4)}))
	valid(false, ranges(liverange.Range{Id: 1}))
	valid(false, ranges(liverange.Range{Id: 1, Start: p, End: liverange.Point{Node: 11}}))
	// Iterators.
	valid(false, iterators(liverange.Iterator{Id: 1}))
	valid(false, iterators(liverange.Iterator{Id: 1, Root: x.at("b"), Ref: x.at("p")}))
	valid(false, iterators(liverange.Iterator{Id: 1, Root: x.at("p"), Ref: x.at("q")}))
	valid(false, iterators(liverange.Iterator{Id: 1, Root: x.at("p"), Ref: 11}))
	valid(false, iterators(liverange.Iterator{Id: 1, Root: 11, Ref: x.at("p")}))
	valid(false, iterators(liverange.Iterator{Id: 1, Root: 11, Ref: 11}))
	// Numbers.
	valid(false, ranges(liverange.Range{Id: 10, Start: p, End: p}))
	valid(false, ranges(liverange.Range{Id: 0, Start: p, End: p}))
	valid(false, ranges(liverange.Range{Id: -1, Start: p, End: p}))
	valid(false, ranges(liverange.Range{Id: 2, Start: p, End: p}, liverange.Range{Id: 2, Start: p, End: p}))
	valid(false, ranges(liverange.Range{Id: 3, Start: p, End: p}, liverange.Range{Id: 2, Start: p, End: p}))
	later := it
	later.Id = 5
	valid(true, iterators(it, later))
	valid(false, iterators(it, it))
	valid(false, iterators(later, it))
	later.Id = 10
	valid(false, iterators(it, later))
	valid(false, liverange.Set{Ranges: []liverange.Range{{Id: 4, Start: p, End: p}}, Iterators: []liverange.Iterator{it}, Last: 9})
	valid(false, liverange.Set{Last: -1})
}

// R1: there are no nodes in a nil tree, and none in a zero one.
func TestNoTree(t *testing.T) {
	for _, x := range []*tree.Tree{nil, {}} {
		var s liverange.Set
		if !s.Valid(x) {
			t.Error("the empty set is not valid")
		}
		at := liverange.Point{Node: 1}
		id, e := s.Create(x, at)
		other, f := s.Iterate(x, 1)
		if id != 0 || e != api.ErrNone || other != 0 || f != api.ErrNone || s.Last != 0 {
			t.Errorf("%d, %d, %d, %d, %+v", id, e, other, f, s)
		}
		if got, e := liverange.Compare(x, at, at); got != 0 || e != api.ErrRange {
			t.Errorf("Compare returns %d, error %d", got, e)
		}
		s = liverange.Set{Ranges: []liverange.Range{{Id: 1, Start: at, End: at}}, Last: 3}
		if s.Valid(x) || s.SetStart(x, 1, at) != api.ErrNone || s.SetEnd(x, 1, at) != api.ErrNone {
			t.Error("a point is valid")
		}
		text, e := s.Text(x, 1)
		records, f := s.Delete(x, 1)
		if text != "" || e != api.OK || len(records) != 0 || f != api.OK {
			t.Errorf("%q, %d, %+v, %d", text, e, records, f)
		}
		s.Iterators = []liverange.Iterator{{Id: 2, Root: 1, Ref: 1}, {Id: 3, Root: 1, Ref: 1, Before: true}}
		if s.Valid(x) || (&liverange.Set{Iterators: s.Iterators, Last: 3}).Valid(x) {
			t.Error("an iterator is valid")
		}
		next, e := s.Next(x, 2)
		back, f := s.Back(x, 3)
		if next != 0 || e != api.OK || back != 0 || f != api.OK {
			t.Errorf("%d, %d, %d, %d", next, e, back, f)
		}
		s.Update(x, []tree.Record{{Kind: tree.Removed, Target: 1, Node: 1, Prev: 1}, {Kind: tree.Inserted, Target: 1, Index: -1}, {Kind: 9}})
	}
}

// The greatest trees take no long time.
func TestLimits(t *testing.T) {
	x := treebuild.Build(strings.Repeat("<br>", api.MaxNodes), api.Salt{})
	var s liverange.Set
	body := x.Kids(x.Kids(x.Root)[0])[1]
	count := len(x.Kids(body))
	id, _ := s.Create(x, liverange.Point{Node: body, Index: count})
	s.SetStart(x, id, liverange.Point{Node: body, Index: 1})
	walker, _ := s.Iterate(x, x.Root)
	steps := 0
	for h, _ := s.Next(x, walker); h != 0; h, _ = s.Next(x, walker) {
		steps++
	}
	if steps != api.MaxNodes {
		t.Errorf("the iterator passes %d nodes", steps)
	}
	records, e := s.Delete(x, id)
	first := x.Kids(body)[0]
	if len(records) != count-1 || e != api.OK || len(x.Kids(body)) != 1 || s.Iterators[0].Ref != first || !s.Valid(x) {
		t.Errorf("Delete returns %d records, error %d, and the iterator is %+v", len(records), e, s.Iterators[0])
	}

	x = treebuild.Build(strings.Repeat("<x>a", api.MaxDepth-4)+"bc"+strings.Repeat("</x>d", api.MaxDepth-4), api.Salt{})
	s = liverange.Set{}
	body = x.Kids(x.Kids(x.Root)[0])[1]
	id, _ = s.Create(x, liverange.Point{Node: body})
	s.SetEnd(x, id, liverange.Point{Node: body, Index: len(x.Kids(body))})
	want := strings.Repeat("a", api.MaxDepth-4) + "bc" + strings.Repeat("d", api.MaxDepth-4)
	if got, e := s.Text(x, id); got != want || e != api.OK {
		t.Errorf("the text is %q, error %d", got, e)
	}
}

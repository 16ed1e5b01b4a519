package liverange_test

import (
	"fmt"
	"slices"
	"testing"

	"knapsack/api"
	"knapsack/liverange"
	"knapsack/tree"
	"knapsack/treebuild"
)

// changes checks what a range becomes by a mutation.
func changes(t *testing.T, before string, change func(x *site) []tree.Record, after string) {
	t.Helper()
	for _, salt := range salts {
		x := newSite(t, salt, before)
		records := change(x)
		kept := slices.Clone(records)
		tall := fmt.Sprintf("%+v", *x.t)
		x.s.Update(x.t, records)
		x.looks(fmt.Sprintf("%+v", records), after)
		if !slices.Equal(records, kept) || fmt.Sprintf("%+v", *x.t) != tall {
			t.Error("Update changes its arguments")
		}
	}
}

// P10.1: a point stays ahead of what is inserted at its place, and moves with what is behind.
func TestInserted(t *testing.T) {
	const before = "p('a' [ b ] 'c')"
	inserts := func(parent, next, after string) {
		t.Helper()
		changes(t, before, func(x *site) []tree.Record {
			place := 0
			if next != "" {
				place = x.at(next)
			}
			return x.insert(x.at(parent), x.make(tree.Element, "i", ""), place)
		}, after)
	}
	inserts("p", "a", "p(i 'a' [ b ] 'c')")
	inserts("p", "b", "p('a' [ i b ] 'c')")
	inserts("p", "c", "p('a' [ b ] i 'c')")
	inserts("p", "", "p('a' [ b ] 'c' i)")
	inserts("b", "", "p('a' [ b(i) ] 'c')")
	// Points within texts move with these.
	changes(t, "p('a[b' 'c]d')", func(x *site) []tree.Record {
		return x.insert(x.at("p"), x.make(tree.Element, "i", ""), x.at("cd"))
	}, "p('a[b' i 'c]d')")
	// A detached tree takes its ranges along.
	changes(t, "p('a[b' b ])", func(x *site) []tree.Record {
		return x.insert(x.t.Root, x.at("p"), 0)
	}, "#(p('a[b' b ]))")
	changes(t, "p(b([ 'a' ]))", func(x *site) []tree.Record {
		return x.insert(x.plant("q('x')"), x.at("p"), x.at("x"))
	}, "q(p(b([ 'a' ])) 'x')")
}

// P10.1: points within what is removed become its place.
func TestRemoved(t *testing.T) {
	removes := func(before, word, after string) {
		t.Helper()
		changes(t, before, func(x *site) []tree.Record { return x.remove(x.at(word)) }, after)
	}
	// The example of the document.
	removes("p('a[bc]')", "abc", "p([])")
	removes("p('a' [ b ] 'c')", "a", "p([ b ] 'c')")
	removes("p('a' [ b ] 'c')", "b", "p('a' [] 'c')")
	removes("p('a' [ b ] 'c')", "c", "p('a' [ b ])")
	removes("p('a' [] b)", "b", "p('a' [])")
	removes("p('a' b [])", "b", "p('a' [])")
	removes("p(q 'x' b('a[b' i(']c')) 'y')", "b", "p(q 'x' [] 'y')")
	removes("p('x' b('a[b' i(']c')) 'y')", "i", "p('x' b('a[b' ]) 'y')")
	removes("p('x' b('a[b' i(']c')) 'y')", "ab", "p('x' b([ i(']c')) 'y')")
	removes("p('x' b('a[b') 'y' i('c]d'))", "b", "p('x' [ 'y' i('c]d'))")
	removes("p('x' b('a[b') 'y' i('c]d'))", "i", "p('x' b('a[b') 'y' ])")
	removes("p('x' b('a[b') 'y' i('c]d'))", "x", "p(b('a[b') 'y' i('c]d'))")
	removes("p('x' b([]) 'y')", "b", "p('x' [] 'y')")
	removes("#({a} html([ head body({b]})))", "html", "#({a} [])")
	// The boundaries in a parent and in its child follow each other.
	removes("p('a' [ b(c ] d))", "a", "p([ b(c ] d))")
	removes("p('a' [ b(c ] d))", "c", "p('a' [ b(] d))")
	removes("p('a' [ b(c ] d))", "b", "p('a' [])")
	// Without a parent, nothing is removed.
	removes("p('a[b]c')", "p", "p('a[b]c')")
}

// P10.1: a node that is inserted elsewhere is removed first.
func TestMoved(t *testing.T) {
	moves := func(before, parent, word, next, after string) {
		t.Helper()
		changes(t, before, func(x *site) []tree.Record {
			place := 0
			if next != "" {
				place = x.at(next)
			}
			return x.insert(x.at(parent), x.at(word), place)
		}, after)
	}
	moves("p('a' [ b ] 'c')", "p", "c", "a", "p('c' 'a' [ b ])")
	moves("p('a' [ b ] 'c')", "p", "a", "", "p([ b ] 'c' 'a')")
	moves("p('a' [ b ] 'c')", "p", "b", "", "p('a' [] 'c' b)")
	moves("p('a' [ b ] 'c')", "p", "b", "b", "p('a' [] b 'c')")
	moves("p('a' [ b ] 'c')", "p", "a", "c", "p([ b ] 'a' 'c')")
	moves("p('a' [ b ] 'c')", "b", "a", "", "p([ b('a') ] 'c')")
	moves("p('a' [ b ] 'c')", "b", "c", "", "p('a' [ b('c') ])")
	moves("p(i [ b('x') ])", "i", "b", "", "p(i(b('x')) [])")
	// A range within the node does not go with it, but stays at its former place.
	moves("p(i b('[x]'))", "i", "b", "", "p(i(b('x')) [])")
	moves("p(i b('[x]') u)", "p", "b", "i", "p(b('x') i [] u)")
	moves("p(i b('[x]') u)", "p", "b", "", "p(i [] u b('x'))")
	moves("p(i b('[x') 'y]')", "i", "b", "", "p(i(b('x')) [ 'y]')")
	moves("p('x' b('y' i('[z]')))", "p", "i", "x", "p(i('z') 'x' b('y' []))")
	moves("p('x' b('[y' i('z')) ])", "b", "x", "", "p(b('[y' i('z') 'x') ])")
}

// P10.1: points within what is replaced become its beginning, and those behind it keep their distance from the end.
func TestData(t *testing.T) {
	replaces := func(before, word string, index, count int, s, after string) {
		t.Helper()
		changes(t, before, func(x *site) []tree.Record { return x.replace(x.at(word), index, count, s) }, after)
	}
	// The example of the document.
	replaces("p('a[bc]')", "abc", 0, 1, "xy", "p('[xybc]')")
	for _, form := range []string{"p('%s')", "p({%s})", "'%s'"} {
		in := func(s string) string { return fmt.Sprintf(form, s) }
		same := func(index, count int, s, after string) {
			t.Helper()
			replaces(in("ab[cd]ef"), "abcdef", index, count, s, in(after))
		}
		same(0, 0, "xy", "xyab[cd]ef")
		same(1, 0, "é€", "aé€b[cd]ef")
		same(2, 0, "x", "ab[xcd]ef")
		same(3, 0, "x", "ab[cxd]ef")
		same(4, 0, "x", "ab[cd]xef")
		same(6, 0, "x", "ab[cd]efx")
		same(0, 1, "", "b[cd]ef")
		same(0, 2, "", "[cd]ef")
		same(0, 2, "xyz", "[xyzcd]ef")
		same(1, 1, "", "a[cd]ef")
		same(1, 1, "x", "a[xcd]ef")
		same(1, 2, "x", "a[xd]ef")
		same(1, 2, "xyz", "a[xyzd]ef")
		same(1, 3, "xyz", "a[]xyzef")
		same(1, 4, "xyz", "a[]xyzf")
		same(2, 1, "", "ab[d]ef")
		same(2, 2, "", "ab[]ef")
		same(2, 2, "xyz", "ab[]xyzef")
		same(2, 1, "xyz", "ab[xyzd]ef")
		same(3, 1, "x", "ab[c]xef")
		same(3, 3, "xyz", "ab[c]xyz")
		same(4, 2, "xyz", "ab[cd]xyz")
		same(5, 1, "", "ab[cd]e")
		same(0, 6, "", "[]")
		same(0, 6, "xyz", "[]xyz")
		same(1, 99, "", "a[]")
	}
	replaces("p('é[€]a')", "é€a", 0, 1, "", "p('[€]a')")
	// Other nodes do not count, nor do the points among children.
	replaces("p('a[b' 'cd' 'e]f')", "cd", 0, 2, "", "p('a[b' '' 'e]f')")
	replaces("p('a[b' 'cd' 'e]f')", "ef", 0, 1, "xyz", "p('a[b' 'cd' ']xyzf')")
	replaces("p('ab' [ 'cd' ])", "ab", 0, 1, "xyz", "p('xyzb' [ 'cd' ])")
}

// P10.1: attributes, and records of no kind, move nothing.
func TestNoMove(t *testing.T) {
	const words = "p(q [ b('a') ] c)"
	changes(t, words, func(x *site) []tree.Record {
		set, _ := x.t.SetAttr(x.at("p"), "a", "b")
		dropped, _ := x.t.DropAttr(x.at("p"), "a")
		return append(set, dropped...)
	}, words)
	changes(t, words, func(x *site) []tree.Record { return nil }, words)
	changes(t, words, func(x *site) []tree.Record {
		p := x.at("p")
		var list []tree.Record
		for _, kind := range []int{0, tree.Attribute, 5, -1} {
			list = append(list, tree.Record{Kind: kind, Target: p, Node: x.at("b"), Count: 9, Size: 1})
		}
		return list
	}, words)
}

// P10.1: the records of a call that returns many of them are taken one after the other.
func TestManyRecords(t *testing.T) {
	builds := func(before, word, markup, after string) {
		t.Helper()
		changes(t, before, func(x *site) []tree.Record {
			records, e := treebuild.Fragment(x.t, x.at(word), markup)
			x.is("Fragment", e, api.OK)
			return records
		}, after)
	}
	builds("p('a' b('[c') {d} 'e]f')", "p", "x<i>y</i>z", "p([] 'x' i('y') 'z')")
	builds("p('a' b('[c') {d} 'e]f')", "b", "x<i>y</i>z", "p('a' b([ 'x' i('y') 'z') {d} 'e]f')")
	builds("p('a' b('c' [ 'd') ] 'ef')", "b", "", "p('a' b([) ] 'ef')")
	// What may not be in a table is put ahead of it.
	builds("p('a' [ table(tr('b]'))  'c')", "table", "d<i>e", "p('ad' [ i('e') table(]) 'c')")
	changes(t, "p('a[b' b 'c]d' ])", func(x *site) []tree.Record {
		// Another set deletes a part of the range.
		var other liverange.Set
		id, e := other.Create(x.t, x.point("ab", 0))
		x.is("Create", e, api.OK)
		x.is("SetEnd", other.SetEnd(x.t, id, x.point("cd", 1)), api.OK)
		records, e := other.Delete(x.t, id)
		x.is("Delete", e, api.OK)
		return records
	}, "p('[' 'd' ])")
}

// walk is a tree with one iterator.
const walk = "p(a(b c(d)) e(f) g)"

// stands is a site with one iterator at the element ref, within the element root.
func stands(t *testing.T, salt api.Salt, root, ref string, before bool) *site {
	t.Helper()
	x := newSite(t, salt, walk)
	id, e := x.s.Iterate(x.t, x.at(root))
	x.fine("Iterate", e)
	for h := 0; h != x.at(ref); {
		if h, e = x.s.Next(x.t, id); h == 0 || e != api.OK {
			t.Fatalf("Next is %d, error %d, ahead of %s", h, e, ref)
		}
	}
	if before {
		x.s.Back(x.t, id)
	}
	x.iterator(ref, before)
	return x
}

// iterator checks where the iterator stands.
func (x *site) iterator(ref string, before bool) {
	x.Helper()
	want := x.s.Iterators[0]
	want.Ref, want.Before = x.at(ref), before
	if x.s.Iterators[0] != want || !x.s.Valid(x.t) {
		x.Errorf("the iterator is %+v, not %+v", x.s.Iterators[0], want)
	}
}

// P10.1: an iterator goes through all nodes within its root, there and back.
func TestIterate(t *testing.T) {
	for _, salt := range salts {
		for root, words := range map[string][]string{
			"p": {"p", "a", "b", "c", "d", "e", "f", "g"}, "a": {"a", "b", "c", "d"}, "e": {"e", "f"}, "d": {"d"}, "g": {"g"},
		} {
			x := newSite(t, salt, "q(x "+walk+" y)")
			id, e := x.s.Iterate(x.t, x.at(root))
			x.is("Iterate", e, api.OK)
			pass := func(what, want string, call func(*tree.Tree, int) (api.Handle, api.Errno)) {
				t.Helper()
				h := 0
				if want != "" {
					h = x.at(want)
				}
				if got, e := call(x.t, id); got != h || e != api.OK {
					t.Errorf("%s is %d, error %d, not %d", what, got, e, h)
				}
			}
			x.iterator(root, true)
			x.stays("Back from the beginning", func() { pass("Back", "", x.s.Back) })
			for _, word := range words {
				pass("Next", word, x.s.Next)
				x.iterator(word, false)
				pass("Back", word, x.s.Back)
				x.iterator(word, true)
				pass("Next", word, x.s.Next)
			}
			x.stays("Next from the end", func() { pass("Next", "", x.s.Next) })
			for _, word := range slices.Backward(words) {
				pass("Back", word, x.s.Back)
				x.iterator(word, true)
			}
			x.stays("Back from the beginning", func() { pass("Back", "", x.s.Back) })
		}
	}
}

// Texts, comments and the document are nodes, too.
func TestIterateDocument(t *testing.T) {
	x := newSite(t, api.Salt{Base: 10, Stride: 3}, "#({a} html('b' c))")
	id, e := x.s.Iterate(x.t, x.t.Root)
	x.is("Iterate", e, api.OK)
	for _, want := range []api.Handle{x.t.Root, x.at("a"), x.at("html"), x.at("b"), x.at("c"), 0, 0} {
		if h, e := x.s.Next(x.t, id); h != want || e != api.OK {
			t.Errorf("Next is %d, error %d, not %d", h, e, want)
		}
	}
	for _, h := range []api.Handle{0, -1, 11, 1 << 40} {
		x.stays("Iterate", func() {
			id, e := x.s.Iterate(x.t, h)
			x.is("Iterate", e, api.ErrNone)
			if id != 0 {
				t.Errorf("Iterate returns %d with an error", id)
			}
		})
	}
}

// P10.1: an iterator whose node is removed goes to what came before it.
func TestIteratorRemoved(t *testing.T) {
	removes := func(root, ref, word, want string, moves bool) {
		t.Helper()
		for _, salt := range salts {
			for _, before := range []bool{true, false} {
				x := stands(t, salt, root, ref, before)
				x.s.Update(x.t, x.remove(x.at(word)))
				x.iterator(want, before && !moves)
			}
		}
	}
	// To the end of the sibling before it, or to the parent.
	removes("p", "e", "e", "d", true)
	removes("p", "f", "e", "d", true)
	removes("p", "f", "f", "e", true)
	removes("p", "g", "g", "f", true)
	removes("p", "d", "c", "b", true)
	removes("p", "b", "b", "a", true)
	removes("p", "d", "a", "p", true)
	removes("a", "c", "c", "b", true)
	removes("a", "b", "b", "a", true)
	removes("c", "d", "d", "c", true)
	// The rest stays.
	removes("p", "e", "a", "e", false)
	removes("p", "e", "f", "e", false)
	removes("p", "p", "e", "p", false)
	removes("p", "c", "b", "c", false)
	removes("p", "c", "d", "c", false)
	// With the root, all goes.
	removes("e", "f", "e", "f", false)
	removes("e", "e", "e", "e", false)
	removes("c", "d", "a", "d", false)
	removes("c", "c", "a", "c", false)
}

// P10.1: the same if the node is inserted elsewhere, even into the sibling before it.
func TestIteratorMoved(t *testing.T) {
	moves := func(root, ref, parent, word, next, want string, moved bool) {
		t.Helper()
		for _, salt := range salts {
			for _, before := range []bool{true, false} {
				x := stands(t, salt, root, ref, before)
				place := 0
				if next != "" {
					place = x.at(next)
				}
				x.s.Update(x.t, x.insert(x.at(parent), x.at(word), place))
				x.iterator(want, before && !moved)
			}
		}
	}
	for _, ref := range []string{"e", "f"} {
		moves("p", ref, "a", "e", "", "d", true)
		moves("p", ref, "a", "e", "b", "d", true)
		moves("p", ref, "a", "e", "c", "d", true)
		moves("p", ref, "c", "e", "", "d", true)
		moves("p", ref, "c", "e", "d", "d", true)
		moves("p", ref, "d", "e", "", "d", true)
		moves("p", ref, "b", "e", "", "d", true)
		moves("p", ref, "g", "e", "", "d", true)
		moves("p", ref, "p", "e", "", "d", true)
		moves("p", ref, "p", "e", "a", "d", true)
		moves("p", ref, "p", "e", "e", "d", true)
		moves("e", ref, "a", "e", "", ref, false)
	}
	moves("p", "d", "b", "c", "", "b", true)
	moves("a", "d", "g", "c", "", "b", true)
	moves("p", "b", "g", "b", "", "a", true)
	moves("p", "d", "g", "a", "", "p", true)
	moves("p", "e", "a", "g", "", "e", false)
}

// An iterator that stands at another place goes on from there.
func TestIteratorGoesOn(t *testing.T) {
	x := stands(t, api.Salt{}, "p", "f", true)
	x.s.Update(x.t, x.remove(x.at("e")))
	if h, _ := x.s.Next(x.t, 1); h != x.at("g") {
		t.Errorf("Next is %d, not g", h)
	}
	x = stands(t, api.Salt{}, "p", "f", true)
	x.s.Update(x.t, x.remove(x.at("e")))
	if h, _ := x.s.Back(x.t, 1); h != x.at("d") {
		t.Errorf("Back is %d, not d", h)
	}
	// What is inserted is found if it is ahead.
	x = stands(t, api.Salt{}, "p", "e", false)
	x.s.Update(x.t, x.insert(x.at("e"), x.make(tree.Element, "n", ""), x.at("f")))
	if h, _ := x.s.Next(x.t, 1); h != x.at("n") {
		t.Errorf("Next is %d, not n", h)
	}
}

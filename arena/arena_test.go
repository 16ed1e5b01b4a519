package arena_test

import (
	"math"
	"slices"
	"testing"

	"knapsack/api"
	"knapsack/arena"
)

// lastSlot is the greatest index of a slot that has a handle.
const lastSlot = 1<<31 - 1

// salts have numbers within the range from 1 to 1000, at its ends, and outside of it.
var salts = []api.Salt{
	{}, {Base: 1, Stride: 1}, {Base: 10, Stride: 3}, {Base: 7, Stride: 1}, {Base: 1, Stride: 7},
	{Base: 1000, Stride: 1000}, {Base: 1001, Stride: 999}, {Base: 999, Stride: 1001},
	{Base: -5, Stride: 2}, {Base: 2, Stride: -5}, {Base: 0, Stride: 5000}, {Base: 5000, Stride: 0},
	{Base: math.MinInt, Stride: math.MaxInt}, {Base: math.MaxInt, Stride: math.MinInt},
}

// counted returns n as a Base or a Stride counts.
func counted(n int) int {
	switch {
	case n < 1:
		return 1
	case n > 1000:
		return 1000
	}
	return n
}

// place returns the handle of a slot as the document defines it.
func place(s api.Salt, slot int) api.Handle {
	return counted(s.Base) + counted(s.Stride)*slot
}

// random returns a function whose results are those of a fixed sequence, each reduced to less than its argument.
func random() func(below int) int {
	state := uint64(1)
	return func(below int) int {
		state = state*6364136223846793005 + 1442695040888963407
		return int(state>>33) % below
	}
}

// record is a type of records that cannot be compared.
type record struct {
	name string
	list []int
}

// item is a handle with its record.
type item struct {
	handle api.Handle
	value  string
}

func items(a *arena.Arena[string]) []item {
	var list []item
	for h, v := range a.All() {
		list = append(list, item{h, v})
	}
	return list
}

func same(a, b arena.Arena[string]) bool {
	return a.Salt == b.Salt && slices.Equal(a.Slots, b.Slots) && slices.Equal(a.Free, b.Free) && a.Live == b.Live
}

// filled returns an arena with the given records, of which those with the given slots were dropped afterwards, in this order.
func filled(s api.Salt, values []string, dropped ...int) arena.Arena[string] {
	a := arena.New[string](s)
	for _, v := range values {
		a.Add(v)
	}
	for _, slot := range dropped {
		a.Drop(place(s, slot))
	}
	return a
}

// P3.1: Base and Stride below 1 become 1, above 1000 they become 1000, each for itself.
func TestNorm(t *testing.T) {
	numbers := []int{math.MinInt, -1000, -1, 0, 1, 2, 500, 999, 1000, 1001, 5000, math.MaxInt}
	for _, base := range numbers {
		for _, stride := range numbers {
			want := api.Salt{Base: counted(base), Stride: counted(stride)}
			if got := arena.Norm(api.Salt{Base: base, Stride: stride}); got != want {
				t.Errorf("Norm({%d, %d}) = %v, want %v", base, stride, got, want)
			}
		}
	}
}

// P3.1: the handle of a slot, and 0 for a number that is no slot's.
func TestHandle(t *testing.T) {
	examples := []struct {
		salt api.Salt
		slot int
		want api.Handle
	}{
		{api.Salt{Base: 10, Stride: 3}, 0, 10},
		{api.Salt{Base: 10, Stride: 3}, 2, 16},
		{api.Salt{Base: 0, Stride: 5000}, 2, 2001},
		{api.Salt{}, 0, 1},
		{api.Salt{}, lastSlot, 1 << 31},
		{api.Salt{Base: 1000, Stride: 1000}, lastSlot, 1000 << 31},
	}
	for _, e := range examples {
		if got := arena.Handle(e.salt, e.slot); got != e.want {
			t.Errorf("Handle(%v, %d) = %d, want %d", e.salt, e.slot, got, e.want)
		}
	}
	for _, s := range salts {
		for _, slot := range []int{0, 1, 2, 999, 1000, 1 << 20, lastSlot - 1, lastSlot} {
			if got := arena.Handle(s, slot); got != place(s, slot) {
				t.Errorf("Handle(%v, %d) = %d, want %d", s, slot, got, place(s, slot))
			}
		}
		for _, slot := range []int{-1, -2, -1000, math.MinInt, lastSlot + 1, lastSlot + 2, 1 << 40, math.MaxInt} {
			if got := arena.Handle(s, slot); got != 0 {
				t.Errorf("Handle(%v, %d) = %d, want 0", s, slot, got)
			}
		}
	}
}

// P3.1: Index finds the slot of each handle.
func TestIndexOfHandles(t *testing.T) {
	for _, s := range salts {
		for _, slot := range []int{0, 1, 2, 3, 998, 999, 1000, 1001, 1 << 20, lastSlot - 1, lastSlot} {
			if got := arena.Index(s, place(s, slot)); got != slot {
				t.Errorf("Index(%v, %d) = %d, want %d", s, place(s, slot), got, slot)
			}
		}
	}
}

// P3.1: Index of a number that is no slot's handle is -1.
func TestIndexOfOthers(t *testing.T) {
	if got := arena.Index(api.Salt{Base: 10, Stride: 3}, 14); got != -1 {
		t.Errorf("Index({10, 3}, 14) = %d", got)
	}
	for _, s := range salts {
		base, stride := counted(s.Base), counted(s.Stride)
		others := []api.Handle{
			0, -1, -1000, base - 1, base - stride, base - 1000*stride, math.MinInt, math.MinInt + 1, math.MinInt + 1000,
			place(s, lastSlot) + stride, place(s, lastSlot) + 2*stride, base + stride<<33, base + stride<<40,
			math.MaxInt, math.MaxInt - 1, math.MaxInt - 1000,
		}
		for i := 1; i < stride; i++ {
			others = append(others, base+i, base+5*stride+i, place(s, lastSlot)-i, place(s, lastSlot)+i)
		}
		for _, h := range others {
			if got := arena.Index(s, h); got != -1 {
				t.Errorf("Index(%v, %d) = %d, want -1", s, h, got)
			}
		}
	}
}

// P3.1: among the lowest numbers, exactly the handles have an Index, each its own.
func TestIndexOfAll(t *testing.T) {
	for _, s := range salts {
		slots := map[api.Handle]int{}
		for slot := range 5000 {
			slots[place(s, slot)] = slot
		}
		for h := -5000; h <= 5000; h++ {
			want, ok := slots[h]
			if !ok {
				want = -1
			}
			if got := arena.Index(s, h); got != want {
				t.Fatalf("Index(%v, %d) = %d, want %d", s, h, got, want)
			}
		}
	}
}

// P3.2: New returns an arena without slots, whose salt is the one that was passed.
func TestNew(t *testing.T) {
	for _, s := range salts {
		a := arena.New[record](s)
		if a.Salt != s || len(a.Slots) != 0 || len(a.Free) != 0 || a.Live != 0 || a.Len() != 0 {
			t.Errorf("New(%v) = %v", s, a)
		}
		a.Add(record{})
		if a.Salt != s {
			t.Errorf("after New(%v) and Add the salt is %v", s, a.Salt)
		}
	}
}

// P3.2: the example of the chapter.
func TestExample(t *testing.T) {
	a := arena.New[string](api.Salt{Base: 10, Stride: 3})
	for i, want := range []api.Handle{10, 13, 16} {
		if got := a.Add("x"); got != want || a.Len() != i+1 {
			t.Errorf("Add = %d, want %d; %d records", got, want, a.Len())
		}
	}
	if !a.Drop(10) || !a.Drop(16) || a.Len() != 1 {
		t.Errorf("after Drop: %v", a)
	}
	for _, want := range []api.Handle{16, 10, 19} {
		if got := a.Add("y"); got != want {
			t.Errorf("Add = %d, want %d", got, want)
		}
	}
}

// P3.2: the zero value is an empty arena, whose handles are 1, 2, 3.
func TestZeroValue(t *testing.T) {
	var a arena.Arena[record]
	if _, ok := a.Get(1); ok || a.Len() != 0 || a.At(1) != nil || a.Set(1, record{}) || a.Drop(1) {
		t.Errorf("the zero value: %v", a)
	}
	for i := range 3 {
		if h := a.Add(record{list: []int{i}}); h != i+1 {
			t.Errorf("Add = %d, want %d", h, i+1)
		}
	}
	if a.Len() != 3 || a.Salt != (api.Salt{}) {
		t.Errorf("%v", a)
	}
}

// P3.2: Add takes the slot that was dropped last, and a new one only if none is free.
func TestAddTakesFreeSlots(t *testing.T) {
	s := api.Salt{Base: 5, Stride: 2}
	a := filled(s, []string{"a", "b", "c", "d"}, 1, 3, 0)
	if !slices.Equal(a.Free, []int{1, 3, 0}) || len(a.Slots) != 4 || a.Live != 1 {
		t.Fatalf("%v", a)
	}
	for i, slot := range []int{0, 3, 1, 4} {
		if h := a.Add("new"); h != place(s, slot) {
			t.Errorf("Add %d = %d, want %d", i, h, place(s, slot))
		}
		if want := []int{1, 3, 0}[:max(2-i, 0)]; !slices.Equal(a.Free, want) {
			t.Errorf("Free = %v, want %v", a.Free, want)
		}
		if want := (arena.Slot[string]{Used: true, Value: "new"}); a.Slots[slot] != want {
			t.Errorf("slot %d is %v", slot, a.Slots[slot])
		}
	}
	if a.Slots[2].Value != "c" || a.Len() != 5 || a.Live != 5 || len(a.Slots) != 5 {
		t.Errorf("%v", a)
	}
}

// P3.2: Drop empties the slot, and no other one.
func TestDrop(t *testing.T) {
	s := api.Salt{Base: 3, Stride: 10}
	a := filled(s, []string{"a", "b", "c"})
	if !a.Drop(13) {
		t.Error("Drop(13) = false")
	}
	want := arena.Arena[string]{
		Salt:  s,
		Slots: []arena.Slot[string]{{Used: true, Value: "a"}, {}, {Used: true, Value: "c"}},
		Free:  []int{1},
		Live:  2,
	}
	if !same(a, want) {
		t.Errorf("after Drop: %v, want %v", a, want)
	}
	if v, ok := a.Get(13); ok || v != "" {
		t.Errorf("Get of what was dropped = %q, %t", v, ok)
	}
	a.Drop(3)
	a.Drop(23)
	if a.Len() != 0 || !slices.Equal(a.Free, []int{1, 0, 2}) || slices.ContainsFunc(a.Slots, func(slot arena.Slot[string]) bool { return slot != arena.Slot[string]{} }) {
		t.Errorf("after all were dropped: %v", a)
	}
}

// P3.2, P3.3: for numbers that are no used slot's handle, nothing is found and nothing is changed.
func TestNoRecord(t *testing.T) {
	for _, s := range salts {
		a := filled(s, []string{"a", "b", "c", "d"}, 2)
		before := a.Clone()
		none := []api.Handle{0, -1, counted(s.Base) - 1, place(s, -1), place(s, 2), place(s, 4), place(s, 5), place(s, lastSlot), place(s, lastSlot+1), math.MinInt, math.MaxInt}
		if counted(s.Stride) > 1 {
			none = append(none, place(s, 0)+1, place(s, 1)-1, place(s, 3)+1)
		}
		for _, h := range none {
			if v, ok := a.Get(h); ok || v != "" {
				t.Errorf("%v: Get(%d) = %q, %t", s, h, v, ok)
			}
			if a.At(h) != nil {
				t.Errorf("%v: At(%d) is not nil", s, h)
			}
			if a.Set(h, "x") || a.Drop(h) {
				t.Errorf("%v: Set or Drop(%d) = true", s, h)
			}
		}
		if !same(a, before) {
			t.Errorf("%v: %v, before %v", s, a, before)
		}
	}
}

// P3.3: Get returns what Add and Set stored, for each record its own.
func TestGetAndSet(t *testing.T) {
	for _, s := range salts {
		a := filled(s, []string{"a", "b", "c"})
		if !a.Set(place(s, 1), "new") {
			t.Errorf("%v: Set = false", s)
		}
		for slot, want := range []string{"a", "new", "c"} {
			if v, ok := a.Get(place(s, slot)); !ok || v != want {
				t.Errorf("%v: Get of slot %d = %q, %t, want %q", s, slot, v, ok, want)
			}
		}
		if a.Len() != 3 || len(a.Slots) != 3 || len(a.Free) != 0 {
			t.Errorf("%v: %v", s, a)
		}
	}
}

// P3.3: a record that is the zero value of its type is a record.
func TestZeroRecord(t *testing.T) {
	var a arena.Arena[string]
	h := a.Add("")
	if v, ok := a.Get(h); !ok || v != "" || a.At(h) == nil || !a.Set(h, "") || a.Len() != 1 {
		t.Errorf("Get = %q, %t; %v", v, ok, a)
	}
	if got := items(&a); !slices.Equal(got, []item{{h, ""}}) {
		t.Errorf("All yields %v", got)
	}
	if !a.Drop(h) {
		t.Error("Drop = false")
	}
}

// P3.3: At points into the slot: both ways, and for as long as no record is added.
func TestAt(t *testing.T) {
	a := arena.New[record](api.Salt{Base: 4, Stride: 4})
	a.Add(record{name: "a"})
	h := a.Add(record{name: "b"})
	other := a.Add(record{name: "c"})
	p := a.At(h)
	if p == nil || p.name != "b" {
		t.Fatalf("At = %v", p)
	}
	p.name, p.list = "new", []int{1, 2}
	if v, ok := a.Get(h); !ok || v.name != "new" || !slices.Equal(v.list, []int{1, 2}) {
		t.Errorf("Get after a change through At = %v, %t", v, ok)
	}
	a.Set(h, record{name: "set"})
	if p.name != "set" || a.At(h) != p {
		t.Errorf("At after Set: %v", *p)
	}
	a.Drop(other)
	*p = record{name: "last"}
	if v, _ := a.Get(h); v.name != "last" {
		t.Errorf("Get after Drop of another record = %v", v)
	}
	if v, _ := a.Get(4); v.name != "a" || a.Len() != 2 {
		t.Errorf("another record: %v", v)
	}
}

// P3.4: All yields the used slots in their order, from the beginning each time.
func TestAll(t *testing.T) {
	for _, s := range salts {
		a := filled(s, []string{"a", "b", "c", "d", "e", "f"}, 5, 0, 3)
		a.Add("new")
		want := []item{{place(s, 1), "b"}, {place(s, 2), "c"}, {place(s, 3), "new"}, {place(s, 4), "e"}}
		for range 2 {
			if got := items(&a); !slices.Equal(got, want) {
				t.Errorf("%v: All yields %v, want %v", s, got, want)
			}
		}
	}
}

// P3.4: All yields nothing for an arena without records.
func TestAllOfEmpty(t *testing.T) {
	var a arena.Arena[string]
	dropped := filled(api.Salt{}, []string{"a", "b"}, 1, 0)
	if got := append(items(&a), items(&dropped)...); len(got) != 0 {
		t.Errorf("All yields %v", got)
	}
}

// P3.4: All stops when the loop is left, and can be ranged over again.
func TestAllStops(t *testing.T) {
	a := filled(api.Salt{}, []string{"a", "b", "c", "d"}, 1)
	all := a.All()
	for most := 1; most <= 3; most++ {
		var got []api.Handle
		for h := range all {
			got = append(got, h)
			if len(got) == most {
				break
			}
		}
		if want := []api.Handle{1, 3, 4}[:most]; !slices.Equal(got, want) {
			t.Errorf("All yields %v, want %v", got, want)
		}
	}
}

// P3.4: a loop ends even if each turn changes the arena.
func TestAllEnds(t *testing.T) {
	a := filled(api.Salt{}, []string{"a", "b", "c"})
	turns := 0
	for range a.All() {
		if turns++; turns > 1000 {
			t.Fatal("the loop does not end")
		}
		a.Add("x")
	}
	for h := range a.All() {
		a.Drop(h)
	}
	for range a.All() {
		a = arena.New[string](api.Salt{})
	}
}

// P3.4: a clone is equal in all fields, and no change of one changes the other, not even where slices have spare capacity.
func TestClone(t *testing.T) {
	for _, s := range salts {
		a := filled(s, []string{"a", "b", "c", "d", "e"}, 4, 1, 2)
		a.Add("c")
		want := filled(s, []string{"a", "b", "c", "d", "e"}, 4, 1)
		b := a.Clone()
		if !same(a, want) || !same(b, want) {
			t.Fatalf("%v: Clone of %v = %v", s, a, b)
		}
		change := func(a *arena.Arena[string], v string, slot int) {
			a.Drop(place(s, slot))
			for range 10 {
				a.Add(v)
			}
			for slot := range 4 {
				a.Set(place(s, slot), v)
			}
		}
		change(&a, "left", 0)
		if !same(b, want) {
			t.Errorf("%v: the clone became %v", s, b)
		}
		left := a.Clone()
		change(&b, "right", 3)
		if !same(a, left) {
			t.Errorf("%v: the original became %v, before %v", s, a, left)
		}
	}
}

// P3.4: the free slots of an arena and of its clone are lists of their own.
func TestCloneFree(t *testing.T) {
	a := filled(api.Salt{}, []string{"a", "b", "c", "d"}, 0, 1)
	a.Add("new")
	b := a.Clone()
	a.Drop(3)
	b.Drop(4)
	if !slices.Equal(a.Free, []int{0, 2}) || !slices.Equal(b.Free, []int{0, 3}) {
		t.Errorf("Free is %v and %v", a.Free, b.Free)
	}
	a.Free[0], b.Slots[0].Value = 9, "x"
	if b.Free[0] != 0 || a.Slots[0].Value != "" {
		t.Errorf("%v, %v", a, b)
	}
}

// P3.4: a clone of an empty arena is one, with the same salt; records are copied by assignment.
func TestCloneOfOthers(t *testing.T) {
	for _, s := range salts {
		a := arena.New[string](s)
		if b := a.Clone(); !same(a, b) || b.Add("x") != place(s, 0) || a.Len() != 0 {
			t.Errorf("Clone of an empty arena with the salt %v: %v", s, b)
		}
	}
	var a arena.Arena[record]
	h := a.Add(record{list: []int{1}})
	b := a.Clone()
	b.At(h).list[0] = 2
	if v, _ := a.Get(h); v.list[0] != 2 {
		t.Errorf("the clone's record has a list of its own: %v", v)
	}
}

// model follows the document: records in numbered slots, nil in those that are not used, and the list of these.
type model struct {
	slots []*string
	free  []int
}

func (m *model) add(v string) int {
	if len(m.free) == 0 {
		m.slots = append(m.slots, &v)
		return len(m.slots) - 1
	}
	slot := m.free[len(m.free)-1]
	m.free = m.free[:len(m.free)-1]
	m.slots[slot] = &v
	return slot
}

func (m *model) has(slot int) bool { return slot < len(m.slots) && m.slots[slot] != nil }

func (m *model) len() int {
	n := 0
	for _, v := range m.slots {
		if v != nil {
			n++
		}
	}
	return n
}

// arena returns the arena with a salt that the model describes.
func (m *model) arena(s api.Salt) arena.Arena[string] {
	a := arena.Arena[string]{Salt: s, Free: m.free, Live: m.len()}
	for _, v := range m.slots {
		if v == nil {
			a.Slots = append(a.Slots, arena.Slot[string]{})
			continue
		}
		a.Slots = append(a.Slots, arena.Slot[string]{Used: true, Value: *v})
	}
	return a
}

// perform does the same thing with a slot to the model and to an arena with the salt s, and compares what they return.
func perform(t *testing.T, a *arena.Arena[string], m model, kind, slot int, v string) model {
	t.Helper()
	m = model{slices.Clone(m.slots), slices.Clone(m.free)}
	h, has := place(a.Salt, slot), m.has(slot)
	switch kind {
	case 0, 1:
		if got, want := a.Add(v), place(a.Salt, m.add(v)); got != want {
			t.Errorf("%v: Add = %d, want %d", a.Salt, got, want)
		}
	case 2:
		if a.Drop(h) != has {
			t.Errorf("%v: Drop(%d) = %t", a.Salt, h, !has)
		}
		if has {
			m.slots[slot] = nil
			m.free = append(m.free, slot)
		}
	case 3:
		if a.Set(h, v) != has {
			t.Errorf("%v: Set(%d) = %t", a.Salt, h, !has)
		}
		if has {
			m.slots[slot] = &v
		}
	case 4:
		if got, ok := a.Get(h); ok != has || has && got != *m.slots[slot] {
			t.Errorf("%v: Get(%d) = %q, %t", a.Salt, h, got, ok)
		}
	}
	return m
}

// P3.5: with the same operations, arenas with any salts contain the same records in the same slots, and no more slots than there were records at one time.
func TestConsequences(t *testing.T) {
	next := random()
	for run := range 50 {
		arenas := make([]arena.Arena[string], len(salts))
		for i, s := range salts {
			arenas[i] = arena.New[string](s)
		}
		var m model
		most := 0
		for step := range 100 {
			kind, slot, v := next(5), next(12), string(rune('a'+step%26))
			var after model
			for i := range arenas {
				after = perform(t, &arenas[i], m, kind, slot, v)
				if want := after.arena(salts[i]); !same(arenas[i], want) || arenas[i].Len() != want.Live {
					t.Fatalf("run %d, step %d: %v, want %v", run, step, arenas[i], want)
				}
			}
			m = after
			most = max(most, m.len())
			for i := range arenas {
				if len(arenas[i].Slots) > most {
					t.Fatalf("%d slots for %d records", len(arenas[i].Slots), most)
				}
			}
		}
	}
}

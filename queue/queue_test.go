package queue_test

import (
	"math"
	"slices"
	"testing"

	"knapsack/queue"
)

// dues are times at the ends of the range of int, around 0, and others, some of them twice.
var dues = []int{5, 3, 5, 0, -1, math.MaxInt, math.MinInt, 3, 1 << 40, -1, math.MaxInt, math.MinInt, 0, 1}

// random returns a function whose results are those of a fixed sequence, each reduced to less than its argument.
func random() func(below int) int {
	state := uint64(1)
	return func(below int) int {
		state = state*6364136223846793005 + 1442695040888963407
		return int(state>>33) % below
	}
}

// record is a type of elements that cannot be compared.
type record struct {
	name string
	list []int
}

// queued returns a queue onto which the given elements were pushed.
func queued[T any](values ...T) queue.Queue[T] {
	var q queue.Queue[T]
	for _, v := range values {
		q.Push(v)
	}
	return q
}

// set returns a set to which timers with the given dues were added; their Ids and Orders are 1, 2, and so on.
func set(dues ...int) queue.Timers {
	var t queue.Timers
	for _, due := range dues {
		t.Add(due)
	}
	return t
}

func same(a, b queue.Timers) bool {
	return a.Next == b.Next && slices.Equal(a.List, b.List)
}

// snapshot returns a copy of a set that is made without Clone.
func snapshot(t queue.Timers) queue.Timers {
	return queue.Timers{List: append([]queue.Timer(nil), t.List...), Next: t.Next}
}

// P4.1: Push appends to Items, whatever was there.
func TestPush(t *testing.T) {
	var q queue.Queue[string]
	for i, v := range []string{"a", "", "b", "a"} {
		q.Push(v)
		if want := []string{"a", "", "b", "a"}[:i+1]; !slices.Equal(q.Items, want) || q.Len() != i+1 {
			t.Errorf("Items = %q, Len = %d, want %q", q.Items, q.Len(), want)
		}
	}
	given := queue.Queue[int]{Items: []int{7, 8}}
	given.Push(9)
	if !slices.Equal(given.Items, []int{7, 8, 9}) {
		t.Errorf("Items = %v", given.Items)
	}
}

// P4.1: Pop removes the first element and returns it.
func TestPop(t *testing.T) {
	values := []string{"a", "", "b", "a"}
	q := queued(values...)
	for i, want := range values {
		if got, ok := q.Pop(); got != want || !ok {
			t.Errorf("Pop = %q, %t, want %q", got, ok, want)
		}
		if !slices.Equal(q.Items, values[i+1:]) || q.Len() != len(values)-i-1 {
			t.Errorf("Items = %q, Len = %d, want %q", q.Items, q.Len(), values[i+1:])
		}
	}
}

// P4.1: Peek returns the first element, as often as it is called, and removes nothing.
func TestPeek(t *testing.T) {
	q := queued("", "b", "c")
	for range 3 {
		if got, ok := q.Peek(); got != "" || !ok {
			t.Errorf("Peek = %q, %t", got, ok)
		}
		if !slices.Equal(q.Items, []string{"", "b", "c"}) || q.Len() != 3 {
			t.Errorf("after Peek Items = %q, Len = %d", q.Items, q.Len())
		}
	}
	q.Pop()
	if got, ok := q.Peek(); got != "b" || !ok {
		t.Errorf("after Pop Peek = %q, %t", got, ok)
	}
}

// empty returns queues without elements that came to be so in different ways.
func empty() []queue.Queue[int] {
	popped, taken := queued(1), queued(1, 2, 3)
	popped.Pop()
	taken.Take(3)
	return []queue.Queue[int]{{}, {Items: []int{}}, {Items: make([]int, 0, 4)}, {Items: []int{6, 7}[:0]}, popped, taken, popped.Clone()}
}

// P4.1: an empty queue has no first element, and is used like a new one.
func TestEmptyQueue(t *testing.T) {
	for i, q := range empty() {
		for range 2 {
			if v, ok := q.Pop(); v != 0 || ok {
				t.Errorf("queue %d: Pop = %d, %t", i, v, ok)
			}
			if v, ok := q.Peek(); v != 0 || ok {
				t.Errorf("queue %d: Peek = %d, %t", i, v, ok)
			}
			if got := q.Take(1); len(got) != 0 {
				t.Errorf("queue %d: Take(1) = %v", i, got)
			}
			if c := q.Clone(); q.Len() != 0 || len(q.Items) != 0 || c.Len() != 0 || len(c.Items) != 0 {
				t.Errorf("queue %d: %v, cloned %v", i, q, c)
			}
		}
		q.Push(4)
		q.Push(5)
		if !slices.Equal(q.Items, []int{4, 5}) {
			t.Errorf("queue %d: after Push Items = %v", i, q.Items)
		}
	}
}

// P4.1: elements may be of any type; without one, Pop and Peek return the type's zero value.
func TestTypesOfElements(t *testing.T) {
	var records queue.Queue[record]
	if v, ok := records.Pop(); ok || v.name != "" || v.list != nil {
		t.Errorf("Pop = %v, %t", v, ok)
	}
	if v, ok := records.Peek(); ok || v.name != "" || v.list != nil {
		t.Errorf("Peek = %v, %t", v, ok)
	}
	records.Push(record{"a", []int{1, 2}})
	if v, ok := records.Pop(); !ok || v.name != "a" || !slices.Equal(v.list, []int{1, 2}) {
		t.Errorf("Pop = %v, %t", v, ok)
	}
	nils := queued[*int](nil, nil)
	if v, ok := nils.Pop(); v != nil || !ok {
		t.Errorf("Pop of a nil = %v, %t", v, ok)
	}
	if v, ok := nils.Peek(); v != nil || !ok || nils.Len() != 1 {
		t.Errorf("Peek of a nil = %v, %t", v, ok)
	}
	none := queued(struct{}{}, struct{}{})
	if _, ok := none.Pop(); !ok || none.Len() != 1 || len(none.Take(5)) != 1 || none.Len() != 0 {
		t.Errorf("elements without content: %v", none)
	}
}

// P4.1: Take removes the first n elements and returns them in order; n counts as 0 if it is negative.
func TestTake(t *testing.T) {
	values := []string{"a", "", "b", "a"}
	for _, n := range []int{math.MinInt, -5, -1, 0, 1, 2, 3, 4, 5, 100, math.MaxInt} {
		q := queued(values...)
		size := min(max(n, 0), len(values))
		if got := q.Take(n); !slices.Equal(got, values[:size]) {
			t.Errorf("Take(%d) = %q, want %q", n, got, values[:size])
		}
		if !slices.Equal(q.Items, values[size:]) || q.Len() != len(values)-size {
			t.Errorf("after Take(%d) Items = %q, Len = %d", n, q.Items, q.Len())
		}
		rest := q.Take(len(values))
		if !slices.Equal(rest, values[size:]) || q.Len() != 0 {
			t.Errorf("Take after Take(%d) = %q, %d left", n, rest, q.Len())
		}
	}
}

// P4.1: what Take returns is new memory, with its spare capacity.
func TestTakeSharesNothing(t *testing.T) {
	for n := range 6 {
		items := []int{1, 2, 3, 4, 5}
		q := queue.Queue[int]{Items: items}
		got := q.Take(n)
		for i := range got[:cap(got)] {
			got[:cap(got)][i] = -1
		}
		if want := []int{1, 2, 3, 4, 5}; !slices.Equal(q.Items, want[n:]) || !slices.Equal(items, want) {
			t.Errorf("after a write to Take(%d): Items = %v, %v", n, q.Items, items)
		}
	}
	q := queued(1, 2, 3, 4)
	got := q.Take(2)
	q.Items[0] = 30
	for v := range 10 {
		q.Push(v)
	}
	got = append(got, 9)
	if !slices.Equal(got, []int{1, 2, 9}) || !slices.Equal(q.Items, []int{30, 4, 0, 1, 2, 3, 4, 5, 6, 7, 8, 9}) {
		t.Errorf("taken %v, left %v", got, q.Items)
	}
}

// P4.1: a clone has the same elements; changes of one do not change the other.
func TestQueueClone(t *testing.T) {
	original := queue.Queue[int]{Items: append(make([]int, 0, 10), 1, 2, 3, 4)}
	original.Pop()
	c := original.Clone()
	if !slices.Equal(c.Items, []int{2, 3, 4}) || !slices.Equal(original.Items, []int{2, 3, 4}) {
		t.Fatalf("cloned %v, original %v", c.Items, original.Items)
	}
	c.Items[0] = 20
	original.Items[1] = 30
	c.Push(5)
	original.Push(6)
	if !slices.Equal(c.Items, []int{20, 3, 4, 5}) || !slices.Equal(original.Items, []int{2, 30, 4, 6}) {
		t.Errorf("after changes: cloned %v, original %v", c.Items, original.Items)
	}
	c.Take(3)
	original.Pop()
	c.Push(7)
	if !slices.Equal(c.Items, []int{5, 7}) || !slices.Equal(original.Items, []int{30, 4, 6}) {
		t.Errorf("after removals: cloned %v, original %v", c.Items, original.Items)
	}
}

// P4.1: a clone shares no memory, neither in the spare capacity of Items nor after all elements were removed.
func TestQueueCloneSharesNothing(t *testing.T) {
	for size := range 6 {
		items := []int{1, 2, 3, 4, 5}
		original := queue.Queue[int]{Items: items[:size]}
		c := original.Clone()
		for v := range 5 {
			c.Push(-v)
		}
		for i := range c.Items {
			c.Items[i] = -1
		}
		if !slices.Equal(items, []int{1, 2, 3, 4, 5}) || original.Len() != size {
			t.Errorf("after changes of the clone of %d elements: %v", size, items)
		}
	}
}

// P4.1: the elements of a clone are copied by assignment.
func TestQueueCloneOfPointers(t *testing.T) {
	n := 1
	original := queued(&n)
	c := original.Clone()
	if v, ok := c.Pop(); v != &n || !ok || original.Len() != 1 {
		t.Errorf("Pop = %v, %t; %d left in the original", v, ok, original.Len())
	}
}

// P4.1, P4.4: after many operations in any order, a queue is as a list on which they are done plainly.
func TestQueueAgainstList(t *testing.T) {
	number := random()
	var q queue.Queue[int]
	var list []int
	for step := range 20000 {
		switch number(7) {
		case 0, 1, 2:
			q.Push(step)
			list = append(list, step)
		case 3:
			n := number(5) - 1
			size := min(max(n, 0), len(list))
			if got := q.Take(n); !slices.Equal(got, list[:size]) {
				t.Fatalf("step %d: Take(%d) = %v, want %v", step, n, got, list[:size])
			}
			list = slices.Clone(list[size:])
		case 4:
			q = q.Clone()
		default:
			checkFirst(t, &q, list)
			list = slices.Clone(list[min(len(list), 1):])
		}
		if !slices.Equal(q.Items, list) || q.Len() != len(list) {
			t.Fatalf("step %d: %v, Len %d, want %v", step, q.Items, q.Len(), list)
		}
	}
}

// checkFirst checks Peek, and then Pop, against the first element of list.
func checkFirst(t *testing.T, q *queue.Queue[int], list []int) {
	t.Helper()
	want := 0
	if len(list) > 0 {
		want = list[0]
	}
	if v, ok := q.Peek(); v != want || ok != (len(list) > 0) {
		t.Fatalf("Peek = %d, %t, want the first of %v", v, ok, list)
	}
	if v, ok := q.Pop(); v != want || ok != (len(list) > 0) {
		t.Fatalf("Pop = %d, %t, want the first of %v", v, ok, list)
	}
}

// P4.4: elements leave a queue in the order in which they entered it.
func TestQueueOrder(t *testing.T) {
	var q queue.Queue[int]
	next := 0
	for i := range 1000 {
		q.Push(2 * i)
		q.Push(2*i + 1)
		if got, ok := q.Pop(); got != next || !ok {
			t.Fatalf("Pop = %d, %t, want %d", got, ok, next)
		}
		next++
	}
	for q.Len() > 0 {
		for _, got := range q.Take(7) {
			if got != next {
				t.Fatalf("Take returned %d, want %d", got, next)
			}
			next++
		}
	}
	if next != 2000 {
		t.Errorf("%d elements came out", next)
	}
}

// The example of the chapter.
func TestExample(t *testing.T) {
	var timers queue.Timers
	for i, due := range []int{5, 3, 5} {
		if got := timers.Add(due); got != i+1 {
			t.Errorf("Add(%d) = %d, want %d", due, got, i+1)
		}
	}
	if got, ok := timers.Pop(2); ok || got != (queue.Timer{}) {
		t.Errorf("Pop(2) = %v, %t", got, ok)
	}
	for _, want := range []queue.Timer{{Id: 2, Due: 3, Order: 2}, {Id: 1, Due: 5, Order: 1}, {Id: 3, Due: 5, Order: 3}} {
		if got, ok := timers.Pop(9); !ok || got != want {
			t.Errorf("Pop(9) = %v, %t, want %v", got, ok, want)
		}
	}
	if !timers.Again(1, 4) || !slices.Equal(timers.List, []queue.Timer{{Id: 1, Due: 4, Order: 4}}) {
		t.Errorf("after Again(1, 4): %v", timers)
	}
	if timers.Again(1, 8) || timers.Len() != 1 || timers.Next != 4 {
		t.Errorf("after Again(1, 8): %v", timers)
	}
}

// P4.2: Add gives out 1, 2, 3 and so on, whatever the timers are due at, and puts each in its place.
func TestAdd(t *testing.T) {
	var timers queue.Timers
	for i, due := range dues {
		if got := timers.Add(due); got != i+1 || timers.Next != i+1 || timers.Len() != i+1 {
			t.Errorf("Add(%d) = %d, want %d; Next = %d, Len = %d", due, got, i+1, timers.Next, timers.Len())
		}
		want := queue.Timer{Id: i + 1, Due: due, Order: i + 1}
		if !slices.Contains(timers.List, want) {
			t.Errorf("after Add(%d): %v, without %v", due, timers.List, want)
		}
	}
	small := set(2, 1, 2, 1, 3)
	want := []queue.Timer{{2, 1, 2}, {4, 1, 4}, {1, 2, 1}, {3, 2, 3}, {5, 3, 5}}
	if !slices.Equal(small.List, want) {
		t.Errorf("List = %v, want %v", small.List, want)
	}
}

// P4.2: an Id is not given out a second time, even if its timer was removed.
func TestAddAfterRemoval(t *testing.T) {
	timers := set(1, 2, 3)
	timers.Remove(3)
	timers.Pop(1)
	if got := timers.Add(0); got != 4 || timers.Next != 4 {
		t.Errorf("Add = %d, Next = %d", got, timers.Next)
	}
	timers.Remove(4)
	timers.Remove(2)
	if got := timers.Add(0); got != 5 || !slices.Equal(timers.List, []queue.Timer{{5, 0, 5}}) {
		t.Errorf("Add = %d, %v", got, timers)
	}
}

// P4.2: Again adds a timer whose Id is given, with the next order number.
func TestAgain(t *testing.T) {
	timers := set(1, 5, 5)
	timers.Pop(1)
	if !timers.Again(1, 5) || timers.Next != 4 {
		t.Errorf("after Again(1, 5): %v", timers)
	}
	want := []queue.Timer{{2, 5, 2}, {3, 5, 3}, {1, 5, 4}}
	if !slices.Equal(timers.List, want) {
		t.Errorf("List = %v, want %v", timers.List, want)
	}
	timers.Remove(2)
	if !timers.Again(2, math.MinInt) || !slices.Equal(timers.List, []queue.Timer{{2, math.MinInt, 5}, {3, 5, 3}, {1, 5, 4}}) {
		t.Errorf("after Again(2, ..): %v", timers)
	}
	timers.Remove(3)
	if !timers.Again(3, math.MaxInt) || !slices.Equal(timers.List, []queue.Timer{{2, math.MinInt, 5}, {1, 5, 4}, {3, math.MaxInt, 6}}) {
		t.Errorf("after Again(3, ..): %v", timers)
	}
}

// P4.2: Again refuses an Id that is not from 1 to Next, or that a timer has, and then changes nothing.
func TestAgainRefuses(t *testing.T) {
	timers := set(4, 9, 4, 9)
	timers.Pop(4)
	before := snapshot(timers)
	for _, id := range []int{math.MinInt, -4, -1, 0, 2, 3, 4, 5, 6, 1000, math.MaxInt} {
		for _, due := range dues {
			if timers.Again(id, due) || !same(timers, before) {
				t.Fatalf("Again(%d, %d): %v, before %v", id, due, timers, before)
			}
		}
	}
	if !timers.Again(1, 4) || timers.Again(1, 4) {
		t.Errorf("Again with 1: %v", timers)
	}
	var none queue.Timers
	for _, id := range []int{-1, 0, 1, 2} {
		if none.Again(id, 0) || none.Len() != 0 || none.Next != 0 {
			t.Errorf("Again(%d, 0) of the zero value: %v", id, none)
		}
	}
}

// P4.2: an Id that Next passed over belongs to no timer until Again adds one with it.
func TestIdsPassedOver(t *testing.T) {
	timers := set(7)
	timers.Pop(7)
	timers.Again(1, 7)
	if timers.Remove(2) || timers.Next != 2 {
		t.Errorf("the Id 2 has a timer: %v", timers)
	}
	if got := timers.Add(7); got != 3 {
		t.Errorf("Add = %d, want 3", got)
	}
	if !timers.Again(2, 7) || timers.Again(2, 7) || timers.Again(5, 7) {
		t.Errorf("Again with the Id 2: %v", timers)
	}
	want := queue.Timers{List: []queue.Timer{{1, 7, 2}, {3, 7, 3}, {2, 7, 4}}, Next: 4}
	if !same(timers, want) {
		t.Errorf("%v, want %v", timers, want)
	}
}

// P4.3: Remove removes the timer with the Id and no other one, wherever it is in List.
func TestRemove(t *testing.T) {
	for id := 1; id <= len(dues); id++ {
		timers := set(dues...)
		var want []queue.Timer
		for _, x := range timers.List {
			if x.Id != id {
				want = append(want, x)
			}
		}
		if !timers.Remove(id) || !slices.Equal(timers.List, want) || timers.Next != len(dues) || timers.Len() != len(dues)-1 {
			t.Errorf("after Remove(%d): %v, want %v", id, timers, want)
		}
		if timers.Remove(id) || !slices.Equal(timers.List, want) || timers.Next != len(dues) {
			t.Errorf("after Remove(%d) twice: %v, want %v", id, timers, want)
		}
	}
}

// P4.3: Remove goes by the Id, not by the order number.
func TestRemoveAfterAgain(t *testing.T) {
	timers := set(1, 2)
	timers.Pop(1)
	timers.Again(1, 3)
	if timers.Remove(3) || !timers.Remove(1) || !slices.Equal(timers.List, []queue.Timer{{2, 2, 2}}) {
		t.Errorf("%v", timers)
	}
}

// P4.3: Remove of an Id that no timer has changes nothing.
func TestRemoveNone(t *testing.T) {
	timers := set(dues...)
	before := snapshot(timers)
	for _, id := range []int{math.MinInt, -1, 0, len(dues) + 1, 1000, math.MaxInt} {
		if timers.Remove(id) || !same(timers, before) {
			t.Errorf("Remove(%d): %v", id, timers)
		}
	}
	var none queue.Timers
	if none.Remove(0) || none.Remove(1) || none.Len() != 0 || none.Next != 0 {
		t.Errorf("Remove of the zero value: %v", none)
	}
}

// P4.3: First returns the first timer and removes nothing.
func TestFirst(t *testing.T) {
	timers := set(5, 3, 3)
	before := snapshot(timers)
	for range 3 {
		if got, ok := timers.First(); !ok || got != (queue.Timer{Id: 2, Due: 3, Order: 2}) || !same(timers, before) {
			t.Errorf("First = %v, %t; %v", got, ok, timers)
		}
	}
	timers.Remove(2)
	if got, ok := timers.First(); !ok || got != (queue.Timer{Id: 3, Due: 3, Order: 3}) {
		t.Errorf("after Remove First = %v, %t", got, ok)
	}
}

// P4.3: Pop takes the first timer from the moment at which it is due, not earlier.
func TestPopTimer(t *testing.T) {
	for _, due := range dues {
		timers := set(due)
		before := snapshot(timers)
		if due != math.MinInt {
			for _, now := range []int{math.MinInt, due - 1} {
				if got, ok := timers.Pop(now); ok || got != (queue.Timer{}) || !same(timers, before) {
					t.Errorf("due at %d: Pop(%d) = %v, %t; %v", due, now, got, ok, timers)
				}
			}
		}
		for _, now := range []int{due, max(due, due+1), math.MaxInt} {
			copied := timers.Clone()
			if got, ok := copied.Pop(now); !ok || got != (queue.Timer{Id: 1, Due: due, Order: 1}) || copied.Len() != 0 || copied.Next != 1 {
				t.Errorf("due at %d: Pop(%d) = %v, %t; %v", due, now, got, ok, copied)
			}
		}
	}
}

// P4.3: Pop takes one timer a call, and leaves those that are not due.
func TestPopTimers(t *testing.T) {
	timers := set(4, 6, 4, 5)
	for _, want := range []queue.Timer{{1, 4, 1}, {3, 4, 3}, {4, 5, 4}} {
		if got, ok := timers.Pop(5); !ok || got != want {
			t.Errorf("Pop(5) = %v, %t, want %v", got, ok, want)
		}
	}
	if got, ok := timers.Pop(5); ok || got != (queue.Timer{}) || !slices.Equal(timers.List, []queue.Timer{{2, 6, 2}}) || timers.Next != 4 {
		t.Errorf("Pop(5) = %v, %t; %v", got, ok, timers)
	}
}

// P4.3: an empty set has no first timer, and nothing is due.
func TestNoTimers(t *testing.T) {
	used := set(1)
	used.Pop(1)
	for _, timers := range []queue.Timers{{}, {List: []queue.Timer{}}, used, used.Clone()} {
		next := timers.Next
		if got, ok := timers.First(); ok || got != (queue.Timer{}) {
			t.Errorf("First = %v, %t", got, ok)
		}
		if got, ok := timers.Pop(math.MaxInt); ok || got != (queue.Timer{}) {
			t.Errorf("Pop = %v, %t", got, ok)
		}
		if c := timers.Clone(); timers.Len() != 0 || c.Len() != 0 || timers.Next != next || c.Next != next {
			t.Errorf("%v, cloned %v", timers, c)
		}
	}
}

// P4.3: a clone is equal; changes of one do not change the other.
func TestTimersClone(t *testing.T) {
	original := set(dues...)
	original.Pop(math.MaxInt)
	original.Remove(3)
	before := snapshot(original)
	changes := []func(timers *queue.Timers){
		func(timers *queue.Timers) { timers.Add(-5) },
		func(timers *queue.Timers) { timers.Add(math.MaxInt) },
		func(timers *queue.Timers) { timers.Again(3, 2) },
		func(timers *queue.Timers) { timers.Remove(4) },
		func(timers *queue.Timers) { timers.Remove(7); timers.Add(math.MinInt) },
		func(timers *queue.Timers) { timers.Pop(math.MaxInt) },
		func(timers *queue.Timers) { timers.List[0] = queue.Timer{} },
		func(timers *queue.Timers) { timers.Next = 0 },
	}
	for i, change := range changes {
		c := original.Clone()
		if !same(c, before) || !same(original, before) {
			t.Fatalf("change %d: cloned %v, original %v, want %v", i, c, original, before)
		}
		change(&c)
		if same(c, before) || !same(original, before) {
			t.Errorf("change %d of the clone: %v, original %v", i, c, original)
		}
		kept := original.Clone()
		changed := original.Clone()
		left := changed.Clone()
		change(&changed)
		if !same(left, before) || !same(kept, before) {
			t.Errorf("change %d of the original: cloned %v and %v", i, left, kept)
		}
	}
}

// plain is a set of timers that finds the first one by looking at all of them.
type plain struct {
	list []queue.Timer
	next int
}

// index returns the index of the timer with an Id, or -1.
func (p *plain) index(id int) int {
	return slices.IndexFunc(p.list, func(x queue.Timer) bool { return x.Id == id })
}

func (p *plain) add(id, due int) {
	p.next++
	p.list = append(p.list, queue.Timer{Id: id, Due: due, Order: p.next})
}

func (p *plain) again(id, due int) bool {
	ok := 1 <= id && id <= p.next && p.index(id) < 0
	if ok {
		p.add(id, due)
	}
	return ok
}

func (p *plain) remove(id int) bool {
	at := p.index(id)
	if at >= 0 {
		p.list = append(p.list[:at:at], p.list[at+1:]...)
	}
	return at >= 0
}

func (p *plain) first() (queue.Timer, bool) {
	if len(p.list) == 0 {
		return queue.Timer{}, false
	}
	best := p.list[0]
	for _, x := range p.list[1:] {
		if x.Due < best.Due || x.Due == best.Due && x.Order < best.Order {
			best = x
		}
	}
	return best, true
}

func (p *plain) pop(now int) (queue.Timer, bool) {
	best, ok := p.first()
	if !ok || best.Due > now {
		return queue.Timer{}, false
	}
	p.remove(best.Id)
	return best, true
}

// sorted returns the timers in the order in which first returns them.
func (p *plain) sorted() []queue.Timer {
	rest := plain{list: slices.Clone(p.list)}
	var list []queue.Timer
	for {
		x, ok := rest.first()
		if !ok {
			return list
		}
		rest.remove(x.Id)
		list = append(list, x)
	}
}

// P4.2, P4.3, P4.4: after operations in any order, a set is as a plain one on which they are done.
func TestTimersAgainstPlainSet(t *testing.T) {
	number := random()
	for range 300 {
		var timers queue.Timers
		var want plain
		for range 60 {
			operate(t, &timers, &want, number)
			first, ok := timers.First()
			if x, found := want.first(); first != x || ok != found {
				t.Fatalf("First = %v, %t, want %v, %t", first, ok, x, found)
			}
			if timers.Next != want.next || timers.Len() != len(want.list) || !slices.Equal(timers.List, want.sorted()) {
				t.Fatalf("%v, want %v", timers, want)
			}
		}
	}
}

// operate does the same to a set and to a plain one, and checks that the results are equal.
func operate(t *testing.T, timers *queue.Timers, want *plain, number func(below int) int) {
	t.Helper()
	id, due := number(want.next+3)-1, number(12)-2
	switch number(8) {
	case 0, 1:
		want.add(want.next+1, due)
		if got := timers.Add(due); got != want.next {
			t.Fatalf("Add(%d) = %d, want %d", due, got, want.next)
		}
	case 2, 3:
		if got, ok := timers.Again(id, due), want.again(id, due); got != ok {
			t.Fatalf("Again(%d, %d) = %t", id, due, got)
		}
	case 4:
		if got, ok := timers.Remove(id), want.remove(id); got != ok {
			t.Fatalf("Remove(%d) = %t", id, got)
		}
	case 5:
		*timers = timers.Clone()
	default:
		got, ok := timers.Pop(due)
		if x, found := want.pop(due); got != x || ok != found {
			t.Fatalf("Pop(%d) = %v, %t, want %v, %t", due, got, ok, x, found)
		}
	}
}

// P4.4: timers leave a set in ascending order of Due, and those with equal Due in the order in which they were added.
func TestOrderOfTimers(t *testing.T) {
	number := random()
	var timers queue.Timers
	for range 500 {
		timers.Add(dues[number(len(dues))])
	}
	for id := 1; id <= 500; id += 3 {
		timers.Remove(id)
		timers.Again(id, dues[number(len(dues))])
	}
	last, _ := timers.Pop(math.MaxInt)
	for n := 2; n <= 500; n++ {
		x, ok := timers.Pop(math.MaxInt)
		if !ok || x.Due < last.Due || x.Due == last.Due && x.Order <= last.Order {
			t.Fatalf("%v, %t comes after %v", x, ok, last)
		}
		last = x
	}
	if timers.Len() != 0 {
		t.Errorf("%d timers are left", timers.Len())
	}
}

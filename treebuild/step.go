package treebuild

import (
	"slices"

	"knapsack/api"
	"knapsack/markup"
	"knapsack/text"
	"knapsack/tree"
)

// step is the state of a step: the builder, the tree, and the event so far.
type step struct {
	*Builder
	tree  *tree.Tree
	event Event
}

// newStep returns the state at the beginning of a step.
func newStep(b *Builder, t *tree.Tree) *step {
	if t == nil {
		// A tree without a root refuses whatever is inserted.
		t = new(tree.Tree)
	}
	return &step{Builder: b, tree: t, event: Event{Kind: Built}}
}

// process carries out the rules of a token.
func (s *step) process(token markup.Token) {
	defer func() {
		// What was raised is a refusal, which ends the rules of this token, and nothing else.
		recover()
	}()
	switch token.Kind {
	case markup.Start:
		s.start(token)
	case markup.End:
		s.end(token.Name)
	case markup.Text:
		s.text(token.Text)
	case markup.Comment:
		// As long as there is no html, nothing is open: the place is then the end of the document.
		s.insert(s.make(tree.Comment, "", token.Text, nil))
	}
}

// finish carries out the rules of the end of the document.
func (s *step) finish() {
	defer func() {
		// A document that has no room for its body is finished, too.
		recover()
		s.Open, s.Reopen, s.Queue = nil, nil, nil
		s.Done = true
		s.event.Kind = Finished
	}()
	s.ensureBody(nil)
}

// note appends the records of a mutation to those of the step.
func (s *step) note(records []tree.Record) {
	s.event.Records = append(s.event.Records, records...)
}

// demand raises a refusal, unless there is no error.
func demand(e api.Errno) {
	if e != api.OK {
		panic(e)
	}
}

// name returns the name of an element, "" if there is no such element.
func (s *step) name(h api.Handle) string {
	n, _ := s.tree.Node(h)
	return n.Name
}

// current returns the current node.
func (s *step) current() api.Handle {
	if len(s.Open) == 0 {
		return s.tree.Root
	}
	return s.Open[len(s.Open)-1]
}

// currentName returns the name of the current node, "" for the document.
func (s *step) currentName() string { return s.name(s.current()) }

// make returns a new node.
func (s *step) make(kind int, name, data string, attrs []api.Attr) api.Handle {
	h, e := s.tree.Make(kind, name, data, attrs)
	demand(e)
	return h
}

// place makes a node a child of parent, ahead of the child before, at the end if that is 0; if this is refused, the node is dropped.
func (s *step) place(h, parent, before api.Handle) {
	records, e := s.tree.Insert(parent, h, before)
	if e != api.OK {
		s.tree.Drop(h)
	}
	demand(e)
	s.note(records)
}

// element makes an element the last child of parent, and returns it.
func (s *step) element(parent api.Handle, name string, attrs []api.Attr) api.Handle {
	h := s.make(tree.Element, name, "", attrs)
	s.place(h, parent, 0)
	return h
}

// spot returns the place for a node that is no table part: the parent, and the child ahead of which it is put, 0 for the end. For a node that is to be fostered ahead of a table that is not there, or has no parent, the place is one that the tree refuses.
func (s *step) spot() (parent, before api.Handle) {
	if !isTableFrame(s.currentName()) {
		return s.current(), 0
	}
	i := s.lastOpen("table")
	if i < 0 {
		return 0, 0
	}
	table, _ := s.tree.Node(s.Open[i])
	return table.Parent, s.Open[i]
}

// insert inserts a node that is no table part, and returns it.
func (s *step) insert(h api.Handle) api.Handle {
	parent, before := s.spot()
	s.place(h, parent, before)
	return h
}

// insertText inserts a text: it is appended to the text before it, if there is one.
func (s *step) insertText(data string) {
	parent, before := s.spot()
	prev, ok := s.textBefore(parent, before)
	if !ok {
		s.place(s.make(tree.Text, "", data, nil), parent, before)
		return
	}
	n, _ := s.tree.Node(prev)
	records, e := s.tree.Replace(prev, text.Len(n.Data), 0, data)
	demand(e)
	s.note(records)
}

// textBefore returns the text that is the sibling directly before a place, and true; false if there is none.
func (s *step) textBefore(parent, before api.Handle) (api.Handle, bool) {
	at, _ := s.tree.Node(parent)
	prev := at.Last
	if before != 0 {
		next, _ := s.tree.Node(before)
		prev = next.Prev
	}
	n, _ := s.tree.Node(prev)
	return prev, n.Kind == tree.Text
}

// lastOpen returns the index of the last open element with that name, -1 if there is none.
func (s *step) lastOpen(name string) int {
	return s.lastOf(func(open string) bool { return open == name })
}

// lastOf returns the index of the last open element whose name satisfies a condition, -1 if there is none.
func (s *step) lastOf(fits func(name string) bool) int {
	for i, h := range slices.Backward(s.Open) {
		if fits(s.name(h)) {
			return i
		}
	}
	return -1
}

// find returns the index of the open element that is found by a condition on its name, -1 if none is.
func (s *step) find(fits func(name string) bool, barriers ...string) int {
	i := s.lastOf(func(name string) bool {
		return fits(name) || isBarrier(name) || slices.Contains(barriers, name)
	})
	if i < 0 || !fits(s.name(s.Open[i])) {
		return -1
	}
	return i
}

// findName is find for a name; for li, a list is a barrier, too.
func (s *step) findName(name string) int {
	fits := func(open string) bool { return open == name }
	if name == "li" {
		return s.find(fits, "ol", "ul")
	}
	return s.find(fits)
}

// mayClose reports whether the open element with that index may be closed: not if that is -1, and not if it is the parent of a fragment.
func (s *step) mayClose(i int) bool { return i >= 0 && s.Open[i] != s.Body }

// close closes the open element with that index, if it may be closed.
func (s *step) close(i int) {
	if !s.mayClose(i) {
		return
	}
	closed, inner := s.Open[i], s.Open[i+1:]
	s.Open = s.Open[:i]
	if isBarrier(s.name(closed)) {
		s.Reopen = nil
		return
	}
	list := slices.Clone(s.Reopen)
	for _, h := range inner {
		if name := s.name(h); isFormatting(name) && name != "a" {
			list = append(list, h)
		}
	}
	s.Reopen = list[max(0, len(list)-mostReopened):]
}

// mostReopened is the greatest number of elements that are opened again.
const mostReopened = 4

// reopen opens copies of the elements that something else has closed.
func (s *step) reopen() {
	list := s.Reopen
	s.Reopen = nil
	for _, h := range list {
		double, e := s.tree.Copy(h, false)
		demand(e)
		s.push(s.insert(double))
	}
}

// ensureHtml, ensureHead and ensureBody make the element with that name, with these attributes, if there is none yet, and those that come before it.
func (s *step) ensureHtml(attrs []api.Attr) {
	if s.Html == 0 {
		s.Html = s.element(s.tree.Root, "html", attrs)
		s.Open = []api.Handle{s.Html}
	}
}

func (s *step) ensureHead(attrs []api.Attr) {
	s.ensureHtml(nil)
	if s.Head == 0 {
		s.Head = s.element(s.Html, "head", attrs)
	}
}

func (s *step) ensureBody(attrs []api.Attr) {
	s.ensureHead(nil)
	if s.Body == 0 {
		s.Body = s.element(s.Html, "body", attrs)
		s.Open, s.Reopen = []api.Handle{s.Html, s.Body}, nil
	}
}

package tree_test

import (
	"fmt"
	"maps"
	"slices"
	"strings"

	"knapsack/api"
	"knapsack/text"
	"knapsack/tree"
)

// part is what a node consists of, but for the kind and the name, which never change. The attributes are sorted by their names, since no record tells their order.
type part struct {
	kids  []api.Handle
	attrs []api.Attr
	data  string
}

// state is what a tree consists of.
type state map[api.Handle]part

func stateOf(t *tree.Tree) state {
	s := state{}
	for h, n := range t.Nodes.All() {
		attrs := slices.SortedFunc(slices.Values(n.Attrs), func(a, b api.Attr) int { return strings.Compare(a.Name, b.Name) })
		s[h] = part{kids: t.Kids(h), attrs: attrs, data: n.Data}
	}
	return s
}

func sameState(a, b state) bool {
	return maps.EqualFunc(a, b, func(x, y part) bool {
		return slices.Equal(x.kids, y.kids) && slices.Equal(x.attrs, y.attrs) && x.data == y.data
	})
}

// describes checks that the records lead from the state before to the state after, and back.
func describes(before, after state, records []tree.Record) error {
	s := maps.Clone(before)
	for _, r := range records {
		if err := s.redo(r, after); err != nil {
			return err
		}
	}
	if !sameState(s, after) {
		return fmt.Errorf("the records %v lead to %v, not to %v", records, s, after)
	}
	for _, r := range slices.Backward(records) {
		if err := s.undo(r); err != nil {
			return err
		}
	}
	if !sameState(s, before) {
		return fmt.Errorf("the records %v lead back to %v, not to %v", records, s, before)
	}
	return nil
}

// redo changes the state as the record says. What it does not contain, new values and data, is that of the state after.
func (s state) redo(r tree.Record, after state) error {
	p := s[r.Target]
	switch r.Kind {
	case tree.Inserted:
		return s.put(r)
	case tree.Removed:
		return s.take(r)
	case tree.Attribute:
		old := valueOf(p.attrs, r.Name)
		if r.Had != (len(old) > 0) || r.Had && old[0].Value != r.Old {
			return fmt.Errorf("the record %+v does not fit the attributes %q before it", r, p.attrs)
		}
		p.attrs = withValue(p.attrs, r.Name, valueOf(after[r.Target].attrs, r.Name))
	case tree.Data:
		if p.data != r.Old {
			return fmt.Errorf("the record %+v does not fit the data %q before it", r, p.data)
		}
		added := text.Slice(after[r.Target].data, r.Index, r.Index+r.Size)
		p.data = text.Slice(r.Old, 0, r.Index) + added + text.Slice(r.Old, r.Index+r.Count, text.Len(r.Old))
	}
	s[r.Target] = p
	return nil
}

// undo changes the state as the record says, backwards.
func (s state) undo(r tree.Record) error {
	p := s[r.Target]
	switch r.Kind {
	case tree.Inserted:
		return s.take(r)
	case tree.Removed:
		return s.put(r)
	case tree.Attribute:
		var old []api.Attr
		if r.Had {
			old = []api.Attr{{Name: r.Name, Value: r.Old}}
		}
		p.attrs = withValue(p.attrs, r.Name, old)
	case tree.Data:
		kept := text.Slice(p.data, 0, r.Index) + text.Slice(p.data, r.Index+r.Size, text.Len(p.data))
		if want := text.Slice(r.Old, 0, r.Index) + text.Slice(r.Old, r.Index+r.Count, text.Len(r.Old)); kept != want {
			return fmt.Errorf("the record %+v does not fit the data %q after it", r, p.data)
		}
		p.data = r.Old
	}
	s[r.Target] = p
	return nil
}

// put inserts the node of a record at its place.
func (s state) put(r tree.Record) error {
	for h, p := range s {
		if slices.Contains(p.kids, r.Node) {
			return fmt.Errorf("the record %+v has a node that is a child of %d", r, h)
		}
	}
	p := s[r.Target]
	if r.Index < 0 || r.Index > len(p.kids) || handleAt(p.kids, r.Index-1) != r.Prev || handleAt(p.kids, r.Index) != r.Next {
		return fmt.Errorf("the record %+v does not fit the children %v", r, p.kids)
	}
	p.kids = slices.Concat(p.kids[:r.Index], []api.Handle{r.Node}, p.kids[r.Index:])
	s[r.Target] = p
	return nil
}

// take removes the node of a record from its place.
func (s state) take(r tree.Record) error {
	p := s[r.Target]
	if handleAt(p.kids, r.Index) != r.Node || handleAt(p.kids, r.Index-1) != r.Prev || handleAt(p.kids, r.Index+1) != r.Next {
		return fmt.Errorf("the record %+v does not fit the children %v", r, p.kids)
	}
	p.kids = slices.Concat(p.kids[:r.Index], p.kids[r.Index+1:])
	s[r.Target] = p
	return nil
}

// handleAt returns the handle at an index, 0 if there is none.
func handleAt(list []api.Handle, i int) api.Handle {
	if i < 0 || i >= len(list) {
		return 0
	}
	return list[i]
}

// valueOf returns the attribute with a name alone, nothing if there is none.
func valueOf(attrs []api.Attr, name string) []api.Attr {
	return slices.DeleteFunc(slices.Clone(attrs), func(a api.Attr) bool { return a.Name != name })
}

// withValue returns attributes in which those with a name are replaced.
func withValue(attrs []api.Attr, name string, by []api.Attr) []api.Attr {
	list := slices.DeleteFunc(slices.Clone(attrs), func(a api.Attr) bool { return a.Name == name })
	list = append(list, by...)
	slices.SortFunc(list, func(a, b api.Attr) int { return strings.Compare(a.Name, b.Name) })
	return list
}

package tree_test

import (
	"errors"
	"fmt"
	"slices"
	"strings"
	"testing"

	"knapsack/api"
	"knapsack/text"
	"knapsack/tree"
)

// thing is a node of a model: children are a list, and there are no other links.
type thing struct {
	number int // things are numbered from 1, in the order in which they were made
	kind   int
	name   string
	data   string
	attrs  []api.Attr
	parent *thing
	kids   []*thing
}

// model is a tree by the words of the document: things has a place for each number, nil for a thing that was dropped and for the number 0.
type model struct {
	things []*thing
}

func newModel() *model {
	return &model{things: []*thing{nil, {number: 1, kind: tree.Document}}}
}

// get returns the thing with a number, nil if there is none.
func (m *model) get(number int) *thing {
	if number < 0 || number >= len(m.things) {
		return nil
	}
	return m.things[number]
}

func (m *model) live() int {
	count := 0
	for _, x := range m.things {
		if x != nil {
			count++
		}
	}
	return count
}

// index returns the index among the siblings, -1 without a parent.
func (x *thing) index() int {
	if x.parent == nil {
		return -1
	}
	return slices.Index(x.parent.kids, x)
}

// contains reports whether x is y or an ancestor of it.
func (x *thing) contains(y *thing) bool {
	return y != nil && (x == y || x.contains(y.parent))
}

func (x *thing) depth() int {
	if x == nil {
		return 0
	}
	return 1 + x.parent.depth()
}

func (x *thing) top() *thing {
	if x.parent == nil {
		return x
	}
	return x.parent.top()
}

// all returns a thing and its descendants in document order.
func (x *thing) all() []*thing {
	list := []*thing{x}
	for _, kid := range x.kids {
		list = append(list, kid.all()...)
	}
	return list
}

// sibling returns the number of the child of the same parent at a distance, 0 if there is none.
func (x *thing) sibling(distance int) int {
	if x.parent == nil {
		return 0
	}
	i := x.index() + distance
	if i < 0 || i >= len(x.parent.kids) {
		return 0
	}
	return x.parent.kids[i].number
}

// place returns the record of that kind for the place of x.
func (x *thing) place(kind int) tree.Record {
	return tree.Record{Kind: kind, Target: x.parent.number, Node: x.number, Prev: x.sibling(-1), Next: x.sibling(1), Index: x.index()}
}

// mayBeChild is the document's term.
func (x *thing) mayBeChild(parent *thing) bool {
	if x.kind == tree.Document || x.contains(parent) {
		return false
	}
	if parent.kind == tree.Element {
		return true
	}
	if parent.kind != tree.Document {
		return false
	}
	other := slices.ContainsFunc(parent.kids, func(y *thing) bool { return y.kind == tree.Element && y != x })
	return x.kind == tree.Comment || x.kind == tree.Element && !other
}

func (x *thing) cut() []tree.Record {
	if x.parent == nil {
		return nil
	}
	record := x.place(tree.Removed)
	i := x.index()
	x.parent.kids = slices.Concat(x.parent.kids[:i], x.parent.kids[i+1:])
	x.parent = nil
	return []tree.Record{record}
}

func (m *model) insert(parent, node, before int) ([]tree.Record, api.Errno) {
	p, x, b := m.get(parent), m.get(node), m.get(before)
	if p == nil || x == nil || before != 0 && b == nil {
		return nil, api.ErrNone
	}
	if !x.mayBeChild(p) || b != nil && b.parent != p {
		return nil, api.ErrTree
	}
	for _, y := range x.all() {
		if p.depth()+1+y.depth()-x.depth() > api.MaxDepth {
			return nil, api.ErrLimit
		}
	}
	if b == x {
		b = m.get(x.sibling(1))
	}
	records := x.cut()
	at := len(p.kids)
	if b != nil {
		at = b.index()
	}
	p.kids = slices.Concat(p.kids[:at], []*thing{x}, p.kids[at:])
	x.parent = p
	return append(records, x.place(tree.Inserted)), api.OK
}

func (m *model) remove(node int) ([]tree.Record, api.Errno) {
	x := m.get(node)
	switch {
	case x == nil:
		return nil, api.ErrNone
	case x.kind == tree.Document:
		return nil, api.ErrTree
	}
	return x.cut(), api.OK
}

// attr returns the index of the attribute with a name, -1 if there is none.
func (x *thing) attr(name string) int {
	for i, a := range x.attrs {
		if a.Name == name {
			return i
		}
	}
	return -1
}

func (m *model) setAttr(node int, name, value string) ([]tree.Record, api.Errno) {
	x := m.get(node)
	switch {
	case x == nil:
		return nil, api.ErrNone
	case x.kind != tree.Element:
		return nil, api.ErrTree
	case !isAttrName(name):
		return nil, api.ErrArg
	}
	record := tree.Record{Kind: tree.Attribute, Target: node, Name: name}
	i := x.attr(name)
	switch {
	case i >= 0:
		record.Had, record.Old = true, x.attrs[i].Value
		x.attrs[i].Value = text.Repair(value)
	case len(x.attrs) == api.MaxAttrs:
		return nil, api.ErrLimit
	default:
		x.attrs = append(x.attrs, api.Attr{Name: name, Value: text.Repair(value)})
	}
	return []tree.Record{record}, api.OK
}

func (m *model) dropAttr(node int, name string) ([]tree.Record, api.Errno) {
	x := m.get(node)
	switch {
	case x == nil:
		return nil, api.ErrNone
	case x.kind != tree.Element:
		return nil, api.ErrTree
	}
	i := x.attr(name)
	if i < 0 {
		return nil, api.OK
	}
	old := x.attrs[i].Value
	x.attrs = slices.Delete(x.attrs, i, i+1)
	return []tree.Record{{Kind: tree.Attribute, Target: node, Name: name, Old: old, Had: true}}, api.OK
}

func (m *model) replace(node, index, count int, s string) ([]tree.Record, api.Errno) {
	x := m.get(node)
	switch {
	case x == nil:
		return nil, api.ErrNone
	case x.kind != tree.Text && x.kind != tree.Comment:
		return nil, api.ErrTree
	}
	old, added := []rune(x.data), []rune(s)
	if index < 0 || index > len(old) || count < 0 {
		return nil, api.ErrRange
	}
	count = min(count, len(old)-index)
	record := tree.Record{Kind: tree.Data, Target: node, Index: index, Count: count, Size: len(added), Old: x.data}
	x.data = string(slices.Concat(old[:index], added, old[index+count:]))
	return []tree.Record{record}, api.OK
}

func (m *model) make(kind int, name, data string, attrs []api.Attr) (int, api.Errno) {
	x := &thing{number: len(m.things), kind: kind}
	switch kind {
	case tree.Element:
		if !isName(name) {
			return 0, api.ErrArg
		}
		for i, a := range attrs {
			if !isAttrName(a.Name) || x.attr(a.Name) >= 0 {
				return 0, api.ErrArg
			}
			x.attrs = append(x.attrs, api.Attr{Name: a.Name, Value: text.Repair(attrs[i].Value)})
		}
		x.name = name
	case tree.Text, tree.Comment:
		x.data = text.Repair(data)
	default:
		return 0, api.ErrArg
	}
	m.things = append(m.things, x)
	return x.number, api.OK
}

func (m *model) copy(node int, deep bool) (int, api.Errno) {
	x := m.get(node)
	switch {
	case x == nil:
		return 0, api.ErrNone
	case x.kind == tree.Document:
		return 0, api.ErrTree
	}
	return m.double(x, deep).number, api.OK
}

func (m *model) double(x *thing, deep bool) *thing {
	y := &thing{number: len(m.things), kind: x.kind, name: x.name, data: x.data, attrs: slices.Clone(x.attrs)}
	m.things = append(m.things, y)
	if deep {
		for _, kid := range x.kids {
			z := m.double(kid, true)
			z.parent = y
			y.kids = append(y.kids, z)
		}
	}
	return y
}

func (m *model) drop(node int) api.Errno {
	x := m.get(node)
	switch {
	case x == nil:
		return api.ErrNone
	case x.kind == tree.Document || x.parent != nil:
		return api.ErrState
	}
	for _, y := range x.all() {
		m.things[y.number] = nil
	}
	return api.OK
}

func (m *model) compare(a, b int) (int, api.Errno) {
	x, y := m.get(a), m.get(b)
	if x == nil || y == nil || x.top() != y.top() {
		return 0, api.ErrNone
	}
	order := x.top().all()
	i, j := slices.Index(order, x), slices.Index(order, y)
	switch {
	case i < j:
		return -1, api.OK
	case i > j:
		return 1, api.OK
	}
	return 0, api.OK
}

func (m *model) same(a, b int) bool {
	x, y := m.get(a), m.get(b)
	return x != nil && y != nil && x.outline() == y.outline()
}

// outline writes all of a thing that counts.
func (x *thing) outline() string {
	var b strings.Builder
	fmt.Fprintf(&b, "%d %q %q %q (", x.kind, x.name, x.data, x.attrs)
	for _, kid := range x.kids {
		b.WriteString(kid.outline())
	}
	return b.String() + ")"
}

// isName and isAttrName are the document's terms, by lists of the letters that are not allowed.
func isName(s string) bool {
	return strings.IndexAny(s, "abcdefghijklmnopqrstuvwxyz") == 0 && isFree(s)
}

func isAttrName(s string) bool {
	return s != "" && strings.LastIndex(s, "=") <= 0 && isFree(s)
}

func isFree(s string) bool {
	return !strings.ContainsAny(s, "\t\n\f\r />ABCDEFGHIJKLMNOPQRSTUVWXYZ") && string([]rune(s)) == s
}

// pair is a tree with some salt, whose nodes correspond to the things of a model by their numbers.
type pair struct {
	t       *tree.Tree
	handles []api.Handle // by number
	numbers map[api.Handle]int
}

func newPair(salt api.Salt) *pair {
	t := tree.New(salt)
	return &pair{t: t, handles: []api.Handle{0, t.Root}, numbers: map[api.Handle]int{0: 0, t.Root: 1}}
}

// handle returns the handle of a number; a number without a node gives one that names none.
func (p *pair) handle(number int) api.Handle {
	if number < 0 || number >= len(p.handles) {
		return number - 1000000
	}
	return p.handles[number]
}

// adopt gives the next numbers to a node that was made and its descendants.
func (p *pair) adopt(h api.Handle) {
	for within := range p.t.Walk(h) {
		p.numbers[within] = len(p.handles)
		p.handles = append(p.handles, within)
	}
}

// forget takes the handles from the numbers of nodes that were dropped, since another node may get them.
func (p *pair) forget(m *model) {
	for number := 1; number < len(p.handles); number++ {
		if m.get(number) == nil && p.handles[number] > 0 {
			delete(p.numbers, p.handles[number])
			p.handles[number] = -1
		}
	}
}

// numbered returns records with numbers in place of handles.
func (p *pair) numbered(records []tree.Record) []tree.Record {
	list := slices.Clone(records)
	for i, r := range list {
		list[i].Target, list[i].Node = p.number(r.Target), p.number(r.Node)
		list[i].Prev, list[i].Next = p.number(r.Prev), p.number(r.Next)
	}
	return list
}

func (p *pair) number(h api.Handle) int {
	if number, ok := p.numbers[h]; ok {
		return number
	}
	return -1
}

// differs tells how the nodes and the results of all functions that change nothing differ from the model.
func (p *pair) differs(m *model) error {
	if p.t.Nodes.Len() != m.live() {
		return fmt.Errorf("%d nodes, not %d", p.t.Nodes.Len(), m.live())
	}
	for number := range p.handles {
		if err := p.nodeDiffers(m, number); err != nil {
			return err
		}
	}
	if !p.t.Valid() {
		return errors.New("the tree is not valid")
	}
	return nil
}

func (p *pair) nodeDiffers(m *model, number int) error {
	x, h := m.get(number), p.handle(number)
	n, ok := p.t.Node(h)
	if x == nil {
		if ok || n.Kind != 0 || p.t.Kids(h) != nil || p.t.Index(h) != -1 || p.t.Top(h) != 0 || p.t.Content(h) != "" {
			return fmt.Errorf("there is something with the number %d", number)
		}
		return nil
	}
	want := tree.Node{Kind: x.kind, Name: x.name, Data: x.data, Prev: p.handle(x.sibling(-1)), Next: p.handle(x.sibling(1))}
	var kids []api.Handle
	for _, kid := range x.kids {
		kids = append(kids, p.handle(kid.number))
	}
	if len(kids) > 0 {
		want.First, want.Last = kids[0], kids[len(kids)-1]
	}
	if x.parent != nil {
		want.Parent = p.handle(x.parent.number)
	}
	attrs := n.Attrs
	n.Attrs = nil
	var walk []api.Handle
	content := ""
	for _, y := range x.all() {
		walk = append(walk, p.handle(y.number))
		if y.kind == tree.Text {
			content += y.data
		}
	}
	switch {
	case !ok || fmt.Sprint(n) != fmt.Sprint(want) || !slices.Equal(attrs, x.attrs):
		return fmt.Errorf("the node %d is %v with %q, not %v with %q", number, n, attrs, want, x.attrs)
	case !slices.Equal(p.t.Kids(h), kids) || p.t.Index(h) != x.index() || p.t.Top(h) != p.handle(x.top().number):
		return fmt.Errorf("the node %d has the Kids %v, the Index %d and the Top %d", number, p.t.Kids(h), p.t.Index(h), p.t.Top(h))
	case !slices.Equal(slices.Collect(p.t.Walk(h)), walk) || p.t.Content(h) != content:
		return fmt.Errorf("Walk of the node %d is %v, and its Content %q", number, slices.Collect(p.t.Walk(h)), p.t.Content(h))
	}
	return nil
}

// pairDiffers tells how the results for two nodes differ from the model.
func (p *pair) pairDiffers(m *model, a, b int) error {
	x, y := m.get(a), m.get(b)
	contains := x != nil && y != nil && x.contains(y)
	if p.t.Contains(p.handle(a), p.handle(b)) != contains {
		return fmt.Errorf("Contains of %d and %d is %v", a, b, !contains)
	}
	order, e := m.compare(a, b)
	if got, err := p.t.Compare(p.handle(a), p.handle(b)); got != order || err != e {
		return fmt.Errorf("Compare of %d and %d is %d, %d, not %d, %d", a, b, got, err, order, e)
	}
	same := m.same(a, b)
	if tree.Same(p.t, p.handle(a), p.t, p.handle(b)) != same {
		return fmt.Errorf("Same of %d and %d is %v", a, b, !same)
	}
	return nil
}

// act is a change that is made to a model and to trees alike.
type act struct {
	what  string
	stock bool // it makes or drops nodes, of which there are no records
	m     func(m *model) ([]tree.Record, api.Errno)
	t     func(p *pair) ([]tree.Record, api.Errno)
}

// chooser chooses the arguments of acts.
type chooser struct {
	next func(below int) int
	m    *model
}

func (c chooser) word(list ...string) string { return list[c.next(len(list))] }

// some returns the number of a thing, rarely of none. The last things are taken more often, so that trees become deep.
func (c chooser) some() int {
	if c.next(20) == 0 {
		return c.next(len(c.m.things)+2) - 1
	}
	for {
		x := c.m.get(len(c.m.things) - 1 - c.next(1+c.next(len(c.m.things)-1)))
		if x != nil {
			return x.number
		}
	}
}

// child returns the number of a child of a thing, 0 if there is none.
func (c chooser) child(number int) int {
	x := c.m.get(number)
	if x == nil || len(x.kids) == 0 {
		return 0
	}
	return x.kids[c.next(len(x.kids))].number
}

func (c chooser) name() string {
	return c.word("a", "b", "c", "id", "=", "=d", "", "A", "x y", "=e=", "\xFF", "é")
}

func (c chooser) data() string {
	return c.word("", "x", "aé€", "\U0001F600b", "\xE2\x82", "y\xFF", "&<>") + c.word("", "", "z", "\xAC")
}

// act returns any change, with arguments that are often right.
func (c chooser) act() act {
	switch c.next(12) {
	case 0, 1, 2:
		return c.makeAct()
	case 3, 4, 5, 6:
		return c.insertAct()
	case 7, 8, 9:
		return c.elementAct(c.some(), c.name())
	case 10:
		return c.replaceAct(c.some())
	}
	return c.stockAct(c.some())
}

func (c chooser) makeAct() act {
	kind, name, data := 2+c.next(3), c.word("p", "b", "x-1", "q"), c.data()
	if c.next(10) == 0 {
		kind, name = c.next(7)-1, c.name()
	}
	var attrs []api.Attr
	for range c.next(3) {
		attrs = append(attrs, api.Attr{Name: c.word("a", "b", "c", "c", "=", "D"), Value: c.data()})
	}
	return act{
		fmt.Sprintf("Make %d %q %q %q", kind, name, data, attrs), true,
		func(m *model) ([]tree.Record, api.Errno) { _, e := m.make(kind, name, data, attrs); return nil, e },
		func(p *pair) ([]tree.Record, api.Errno) { return p.made(p.t.Make(kind, name, data, attrs)) },
	}
}

func (c chooser) insertAct() act {
	parent, node, before := c.some(), c.some(), 0
	if c.next(3) > 0 {
		before = c.child(parent)
	}
	// Now and then a child is moved, which may be the one ahead of which it goes, or before is any node.
	switch c.next(6) {
	case 0, 1:
		node = c.child(parent)
	case 2:
		before = c.some()
	}
	return act{
		fmt.Sprintf("Insert %d %d %d", parent, node, before), false,
		func(m *model) ([]tree.Record, api.Errno) { return m.insert(parent, node, before) },
		func(p *pair) ([]tree.Record, api.Errno) {
			return p.t.Insert(p.handle(parent), p.handle(node), p.handle(before))
		},
	}
}

func (c chooser) elementAct(node int, name string) act {
	switch c.next(3) {
	case 0:
		return act{
			fmt.Sprintf("Remove %d", node), false,
			func(m *model) ([]tree.Record, api.Errno) { return m.remove(node) },
			func(p *pair) ([]tree.Record, api.Errno) { return p.t.Remove(p.handle(node)) },
		}
	case 1:
		return act{
			fmt.Sprintf("DropAttr %d %q", node, name), false,
			func(m *model) ([]tree.Record, api.Errno) { return m.dropAttr(node, name) },
			func(p *pair) ([]tree.Record, api.Errno) { return p.t.DropAttr(p.handle(node), name) },
		}
	}
	value := c.data()
	return act{
		fmt.Sprintf("SetAttr %d %q %q", node, name, value), false,
		func(m *model) ([]tree.Record, api.Errno) { return m.setAttr(node, name, value) },
		func(p *pair) ([]tree.Record, api.Errno) { return p.t.SetAttr(p.handle(node), name, value) },
	}
}

func (c chooser) replaceAct(node int) act {
	index, count, s := c.next(5)-1, c.next(5)-1, c.data()
	return act{
		fmt.Sprintf("Replace %d %d %d %q", node, index, count, s), false,
		func(m *model) ([]tree.Record, api.Errno) { return m.replace(node, index, count, s) },
		func(p *pair) ([]tree.Record, api.Errno) { return p.t.Replace(p.handle(node), index, count, s) },
	}
}

func (c chooser) stockAct(node int) act {
	if c.next(2) == 0 || c.m.live() > 60 {
		return act{
			fmt.Sprintf("Drop %d", node), true,
			func(m *model) ([]tree.Record, api.Errno) { return nil, m.drop(node) },
			func(p *pair) ([]tree.Record, api.Errno) { return nil, p.t.Drop(p.handle(node)) },
		}
	}
	deep := c.next(2) == 0
	return act{
		fmt.Sprintf("Copy %d %v", node, deep), true,
		func(m *model) ([]tree.Record, api.Errno) { _, e := m.copy(node, deep); return nil, e },
		func(p *pair) ([]tree.Record, api.Errno) { return p.made(p.t.Copy(p.handle(node), deep)) },
	}
}

// made adopts what Make or Copy returned.
func (p *pair) made(h api.Handle, e api.Errno) ([]tree.Record, api.Errno) {
	if e != api.OK && h != 0 {
		return nil, -1
	}
	p.adopt(h)
	return nil, e
}

// P7.1, P7.2, P7.3, P7.4: trees with several salts, to which the same happens, do what the model does, stay valid, and have records that lead from one state to the next and back.
func TestAgainstModel(t *testing.T) {
	next := random()
	for run := range 100 {
		c := chooser{next, newModel()}
		var pairs []*pair
		for _, salt := range salts {
			pairs = append(pairs, newPair(salt))
		}
		var log []string
		for range 150 {
			a := c.act()
			log = append(log, a.what)
			records, e := a.m(c.m)
			x, y := c.some(), c.some()
			for _, p := range pairs {
				if err := p.play(a, c.m, records, e, x, y); err != nil {
					t.Fatalf("run %d, salt %v: %v after\n%s", run, p.t.Nodes.Salt, err, strings.Join(log, "\n"))
				}
				if !tree.Same(p.t, p.t.Root, pairs[0].t, pairs[0].t.Root) {
					t.Fatalf("run %d: the documents are not the same", run)
				}
			}
		}
	}
}

// play does to the tree what was done to the model, with the result that is given, and tells what differs.
func (p *pair) play(a act, m *model, want []tree.Record, wantError api.Errno, x, y int) error {
	before := stateOf(p.t)
	records, e := a.t(p)
	if got := p.numbered(records); e != wantError || !slices.Equal(got, want) {
		return fmt.Errorf("it returns %v and %d, not %v and %d", got, e, want, wantError)
	}
	if !a.stock {
		if err := describes(before, stateOf(p.t), records); err != nil {
			return err
		}
	}
	p.forget(m)
	if err := p.differs(m); err != nil {
		return err
	}
	return p.pairDiffers(m, x, y)
}

package treebuild_test

import (
	"fmt"
	"slices"
	"strings"
	"testing"

	"knapsack/api"
	"knapsack/markup"
	"knapsack/text"
	"knapsack/tree"
	"knapsack/treebuild"
)

// The document's lists of names.
const (
	formattingNames = " a b code em i s small strong u "
	headNames       = " base link meta script style title "
	blockNames      = " address article blockquote div footer form h1 h2 h3 h4 h5 h6 header hr main nav ol p pre section table ul "
	headingNames    = " h1 h2 h3 h4 h5 h6 "
	sectionNames    = " tbody tfoot thead "
	partNames       = " tbody tfoot thead caption td th tr "
	barrierNames    = " button caption html table td th "
	fosteringNames  = " table tbody tfoot thead tr "
	voidNames       = " area base br col hr img input link meta "
	textNames       = " script style title textarea "
)

// in reports whether a name is in one of the lists.
func in(name string, lists ...string) bool {
	return slices.ContainsFunc(lists, func(list string) bool { return strings.Contains(list, " "+name+" ") })
}

// thing is a node of a model.
type thing struct {
	name   string // "#" for the document, "" for a text, "!" for a comment
	data   string
	attrs  []api.Attr
	parent *thing
	kids   []*thing
}

// is reports whether a thing is an element with a name of one of the lists.
func (x *thing) is(lists ...string) bool { return in(x.name, lists...) }

func (x *thing) depth() int {
	if x == nil {
		return 0
	}
	return 1 + x.parent.depth()
}

// look is the same as for a node of a tree.
func (x *thing) look() string {
	switch x.name {
	case "":
		return fmt.Sprintf("%q", x.data)
	case "!":
		return "!" + x.data
	}
	var parts []string
	for _, a := range x.attrs {
		parts = append(parts, a.Name+"="+a.Value)
	}
	for _, kid := range x.kids {
		parts = append(parts, kid.look())
	}
	if parts == nil {
		return x.name
	}
	return x.name + "(" + strings.Join(parts, " ") + ")"
}

// model constructs a document by the words of the document's rules. A result false of a method says that an insertion was refused, and the rest of the rules does not take place.
type model struct {
	root, html, head, body *thing
	count                  int // nodes
	open, reopen           []*thing
	kind                   int // of the event of the last token
	node                   *thing
}

func newModel() *model { return &model{root: &thing{name: "#"}, count: 1} }

func (m *model) current() *thing {
	if len(m.open) == 0 {
		return m.root
	}
	return m.open[len(m.open)-1]
}

// lastTable returns the last open table, nil if there is none.
func (m *model) lastTable() *thing {
	var table *thing
	for _, x := range m.open {
		if x.name == "table" {
			table = x
		}
	}
	return table
}

// put makes x a child of a parent ahead of the child before, or the last one.
func (m *model) put(x, parent, before *thing) bool {
	fits := len(x.data) <= api.MaxString && !slices.ContainsFunc(x.attrs, func(a api.Attr) bool { return len(a.Value) > api.MaxString })
	if !fits || m.count == api.MaxNodes || parent == nil || parent.depth() == api.MaxDepth {
		return false
	}
	at := len(parent.kids)
	if before != nil {
		at = slices.Index(parent.kids, before)
	}
	parent.kids = slices.Concat(parent.kids[:at], []*thing{x}, parent.kids[at:])
	x.parent = parent
	m.count++
	return true
}

// where returns the place at which a node is inserted that is no table part; without a parent, nothing is inserted.
func (m *model) where() (parent, before *thing) {
	if !m.current().is(fosteringNames) {
		return m.current(), nil
	}
	table := m.lastTable()
	if table == nil {
		return nil, nil
	}
	return table.parent, table
}

func (m *model) insert(x *thing) bool {
	parent, before := m.where()
	return m.put(x, parent, before)
}

func (m *model) insertText(data string) bool {
	parent, before := m.where()
	if parent == nil {
		return false
	}
	siblings := parent.kids
	if before != nil {
		siblings = siblings[:slices.Index(siblings, before)]
	}
	if n := len(siblings); n > 0 && siblings[n-1].name == "" {
		prev := siblings[n-1]
		if len(prev.data)+len(data) > api.MaxString {
			return false
		}
		prev.data += data
		return true
	}
	return m.put(&thing{data: data}, parent, before)
}

// enter inserts an element and opens it.
func (m *model) enter(x *thing) bool {
	if !m.insert(x) {
		return false
	}
	m.open = append(m.open, x)
	return true
}

// find returns the element that is found by a condition, nil if none is.
func (m *model) find(condition func(x *thing) bool, moreBarriers string) *thing {
	for i := len(m.open) - 1; i >= 0; i-- {
		if condition(m.open[i]) {
			return m.open[i]
		}
		if m.open[i].is(barrierNames, moreBarriers) {
			break
		}
	}
	return nil
}

func (m *model) findName(name string) *thing {
	more := ""
	if name == "li" {
		more = " ol ul "
	}
	return m.find(func(x *thing) bool { return x.name == name }, more)
}

// close closes an open element; in a fragment, the parent is never closed.
func (m *model) close(x *thing) bool {
	i := slices.Index(m.open, x)
	if x == nil || i < 0 || x == m.body {
		return false
	}
	after := m.open[i+1:]
	m.open = slices.Clone(m.open[:i])
	if x.is(barrierNames) {
		m.reopen = nil
		return true
	}
	for _, y := range after {
		if y.is(formattingNames) && y.name != "a" {
			m.reopen = append(m.reopen, y)
		}
	}
	for len(m.reopen) > 4 {
		m.reopen = m.reopen[1:]
	}
	return true
}

func (m *model) openAgain() bool {
	list := m.reopen
	m.reopen = nil
	for _, x := range list {
		if !m.enter(&thing{name: x.name, attrs: x.attrs}) {
			return false
		}
	}
	return true
}

func (m *model) ensureHtml(attrs []api.Attr) bool {
	if m.html == nil {
		x := &thing{name: "html", attrs: attrs}
		if !m.put(x, m.root, nil) {
			return false
		}
		m.html, m.open = x, []*thing{x}
	}
	return true
}

func (m *model) ensureHead(attrs []api.Attr) bool {
	if !m.ensureHtml(nil) {
		return false
	}
	if m.head == nil {
		x := &thing{name: "head", attrs: attrs}
		if !m.put(x, m.html, nil) {
			return false
		}
		m.head = x
	}
	return true
}

func (m *model) ensureBody(attrs []api.Attr) bool {
	if !m.ensureHead(nil) {
		return false
	}
	if m.body == nil {
		x := &thing{name: "body", attrs: attrs}
		if !m.put(x, m.html, nil) {
			return false
		}
		m.body, m.open, m.reopen = x, []*thing{m.html, x}, nil
	}
	return true
}

// process carries out the rules of a token.
func (m *model) process(token markup.Token) {
	m.kind, m.node = treebuild.Built, nil
	switch token.Kind {
	case markup.Start:
		m.start(token)
	case markup.End:
		m.end(token.Name)
	case markup.Comment:
		m.insert(&thing{name: "!", data: token.Text})
	case markup.Text:
		m.text(token.Text)
	}
}

func (m *model) text(data string) bool {
	if m.current().is(textNames) {
		return m.insertText(data)
	}
	if m.body == nil {
		if text.Blank(data) {
			return true
		}
		if !m.ensureBody(nil) {
			return false
		}
	}
	if m.current().is(fosteringNames) && text.Blank(data) {
		return true
	}
	return m.openAgain() && m.insertText(data)
}

// element inserts the element of a start tag.
func (m *model) element(token markup.Token) bool {
	x := &thing{name: token.Name, attrs: token.Attrs}
	if !m.insert(x) {
		return false
	}
	if !x.is(voidNames) {
		m.open = append(m.open, x)
	}
	if x.name == "link" {
		m.kind, m.node = treebuild.Link, x
	}
	return true
}

func (x *thing) addAttrs(attrs []api.Attr) {
	for _, a := range attrs {
		has := slices.ContainsFunc(x.attrs, func(b api.Attr) bool { return b.Name == a.Name })
		if !has && len(x.attrs) < api.MaxAttrs && len(a.Value) <= api.MaxString {
			x.attrs = append(slices.Clone(x.attrs), a)
		}
	}
}

func (m *model) start(token markup.Token) bool {
	switch name := token.Name; {
	case in(name, " html head body "):
		return m.html != nil && m.html == m.body || m.startDocumentPart(name, token.Attrs)
	case in(name, headNames) && m.body == nil:
		if !m.ensureHead(nil) {
			return false
		}
		m.open = []*thing{m.html, m.head}
		return m.element(token)
	case in(name, partNames):
		return m.ensureBody(nil) && (m.lastTable() == nil || m.startPart(token))
	default:
		return m.startOther(token)
	}
}

func (m *model) startDocumentPart(name string, attrs []api.Attr) bool {
	switch name {
	case "html":
		if m.html == nil {
			return m.ensureHtml(attrs)
		}
		m.html.addAttrs(attrs)
	case "body":
		if m.body == nil {
			return m.ensureBody(attrs)
		}
		m.body.addAttrs(attrs)
	case "head":
		if m.head == nil && m.body == nil {
			if !m.ensureHead(attrs) {
				return false
			}
			m.open = []*thing{m.html, m.head}
		}
	}
	return true
}

func (m *model) startPart(token markup.Token) bool {
	stay := " table "
	if in(token.Name, " tr td th ") {
		stay += sectionNames
	}
	if in(token.Name, " td th ") {
		stay += " tr "
	}
	from := slices.Index(m.open, m.lastTable())
	first := from + 1
	for i := from; i < len(m.open); i++ {
		if m.open[i].is(stay) {
			first = i + 1
		}
	}
	if first < len(m.open) {
		m.close(m.open[first])
	}
	m.reopen = nil
	var path []*thing
	if m.current().name == "table" && in(token.Name, " tr td th ") {
		path = append(path, &thing{name: "tbody"})
	}
	if m.current().is(fosteringNames) && m.current().name != "tr" && in(token.Name, " td th ") {
		path = append(path, &thing{name: "tr"})
	}
	for _, x := range append(path, &thing{name: token.Name, attrs: token.Attrs}) {
		if !m.put(x, m.current(), nil) {
			return false
		}
		m.open = append(m.open, x)
	}
	return true
}

func (m *model) startOther(token markup.Token) bool {
	name := token.Name
	if !m.ensureBody(nil) {
		return false
	}
	if name == "form" && slices.ContainsFunc(m.open, func(x *thing) bool { return x.name == "form" }) {
		return true
	}
	if in(name, blockNames) {
		m.close(m.findName("p"))
	}
	if name == "li" {
		m.close(m.findName("li"))
		m.close(m.findName("p"))
	}
	if in(name, headingNames) && m.current().is(headingNames) {
		m.close(m.current())
	}
	if name == "button" {
		m.close(m.findName("button"))
	}
	if name == "a" {
		m.end("a")
	}
	if !in(name, blockNames, headNames, " li ") && !m.openAgain() {
		return false
	}
	return m.element(token)
}

// closed says that x was closed by its end tag.
func (m *model) closed(x *thing) bool {
	switch x.name {
	case "script":
		m.kind, m.node = treebuild.Script, x
	case "style":
		m.kind, m.node = treebuild.Sheet, x
	}
	return true
}

func (m *model) end(name string) bool {
	switch x := m.findName(name); {
	case in(name, " html head body "):
		if name == "head" && m.current() == m.head && m.head != m.body {
			m.open = slices.Clone(m.open[:len(m.open)-1])
		}
		return true
	case name == "br":
		return m.start(markup.Token{Kind: markup.Start, Name: "br"})
	case m.body == nil && name != "p":
		if x := m.current(); x.name == name {
			m.open = slices.Clone(m.open[:len(m.open)-1])
			return m.closed(x)
		}
		return true
	case name == "p":
		if !m.ensureBody(nil) || x == nil && !m.enter(&thing{name: "p"}) {
			return false
		}
		return m.close(m.findName("p"))
	case in(name, formattingNames):
		return m.endFormatting(name, x)
	case in(name, partNames, " table "):
		table := slices.Index(m.open, m.lastTable())
		for i := len(m.open) - 1; i >= table && table >= 0; i-- {
			if m.open[i].name == name {
				return m.close(m.open[i])
			}
		}
		return true
	case in(name, headingNames):
		return m.close(m.find(func(x *thing) bool { return x.is(headingNames) }, ""))
	default:
		return m.close(x) && m.closed(x)
	}
}

// endFormatting carries out the rule of the end tag of a formatting element, of which x was found.
func (m *model) endFormatting(name string, x *thing) bool {
	if x == nil {
		for i := len(m.reopen) - 1; i >= 0; i-- {
			if m.reopen[i].name == name {
				m.reopen = slices.Concat(m.reopen[:i], m.reopen[i+1:])
				break
			}
		}
		return true
	}
	for _, y := range m.open[slices.Index(m.open, x)+1:] {
		if y.is(blockNames, partNames, " li ") {
			return true
		}
	}
	return m.close(x)
}

// modelOf returns the model of a whole document.
func modelOf(s string) *model {
	m := newModel()
	for _, token := range markup.Tokens(s) {
		m.process(token)
	}
	m.ensureBody(nil)
	return m
}

// vocabulary returns parts of documents, among them each tag for which there is a rule, and others.
func vocabulary() []string {
	parts := []string{"x", "x ", " ", " y", "\n", "<!--c-->", "<!doctype d>", "&lt;", "\xFF", "<", "</>"}
	for name := range strings.FieldsSeq("html head body title style p div ul ol li h1 h2 a b i u s em span br hr button form table caption tbody thead tr td th textarea link x") {
		parts = append(parts, "<"+name+">", "</"+name+">")
	}
	return append(parts, "<html a=1>", "<body a=2 b=3>", "<head c=4>", "<b d=5>", "<script>if (a<b) x</script>", "<style></style>", "<title>t</title>", "<textarea><b></textarea>")
}

// randomDocument returns up to most parts; in each document, some of them come often.
func randomDocument(next func(below int) int, most int) string {
	parts := vocabulary()
	var often []string
	for range 8 {
		often = append(often, parts[next(len(parts))])
	}
	var b strings.Builder
	for range next(most) {
		if next(2) == 0 {
			b.WriteString(parts[next(len(parts))])
		} else {
			b.WriteString(often[next(len(often))])
		}
	}
	return b.String()
}

// place writes where a node is: its indices among its siblings, from the top on.
func place(t *tree.Tree, h api.Handle) string {
	n, ok := t.Node(h)
	if !ok || n.Parent == 0 {
		return ""
	}
	return fmt.Sprint(place(t, n.Parent), "/", t.Index(h))
}

// place is the same as for a node of a tree.
func (x *thing) place() string {
	if x == nil || x.parent == nil {
		return ""
	}
	return fmt.Sprint(x.parent.place(), "/", slices.Index(x.parent.kids, x))
}

// samePlaces reports whether handles name the nodes that are at the places of things.
func samePlaces(t *tree.Tree, handles []api.Handle, things []*thing) bool {
	return slices.EqualFunc(handles, things, func(h api.Handle, x *thing) bool { return place(t, h) == x.place() })
}

// follows checks each step of the construction of a document against the model.
func follows(t *testing.T, s string) {
	t.Helper()
	var b treebuild.Builder
	x, m := tree.New(api.Salt{Base: 10, Stride: 3}), newModel()
	b.Feed(s)
	b.Finish()
	for i, token := range markup.Tokens(s) {
		event := b.Step(x)
		m.process(token)
		if got, want := look(x, x.Root), m.root.look(); got != want {
			t.Errorf("after %d tokens of %q there is %s, not %s", i+1, s, got, want)
			return
		}
		if !samePlaces(x, b.Open, m.open) || !samePlaces(x, b.Reopen, m.reopen) {
			t.Errorf("after %d tokens of %q, the open elements are %s, and those to be opened again %s", i+1, s, names(x, b.Open), names(x, b.Reopen))
		}
		if event.Kind != m.kind || place(x, event.Node) != m.node.place() {
			t.Errorf("token %d of %q has the event %+v, not of the kind %d at %q", i+1, s, event, m.kind, m.node.place())
		}
		if x.Nodes.Len() != m.count {
			t.Errorf("after %d tokens of %q there are %d nodes, not %d", i+1, s, x.Nodes.Len(), m.count)
		}
	}
	if event := b.Step(x); event.Kind != treebuild.Finished {
		t.Errorf("at the end of %q there is %+v", s, event)
	}
	if !x.Valid() {
		t.Errorf("the tree of %q is not valid", s)
	}
}

func TestStepsFollowModel(t *testing.T) {
	next := random()
	for range 4000 {
		follows(t, randomDocument(next, 40))
	}
}

// All pairs of tags and texts are tried where different things are open.
func TestPairsFollowModel(t *testing.T) {
	for _, before := range []string{
		"", "<head>", "<title>t</title>", "<head></head>", "<body>", "<p>", "<p><b>x<i>", "<p><b>x<i>y</p>", "<a><b>", "<ul><li><p>", "<h1><x>",
		"<button><p><b></p>", "<form><div>", "<table>", "<b><table><tr>", "<table><td><b>", "<table><caption><p>", "<table><tr><td><i>x</tr>", "<table><i><u>",
		"<table><td><table><tbody>",
	} {
		for _, first := range vocabulary() {
			for _, second := range vocabulary() {
				s := before + first + second
				x := treebuild.Build(s, api.Salt{})
				if got, want := look(x, x.Root), modelOf(s).root.look(); got != want {
					t.Fatalf("Build(%q) is %s, not %s", s, got, want)
				}
			}
		}
	}
}

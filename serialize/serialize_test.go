package serialize_test

import (
	"slices"
	"strings"
	"testing"

	"knapsack/api"
	"knapsack/serialize"
	"knapsack/tree"
	"knapsack/treebuild"
)

// salts have numbers within the range from 1 to 1000, at its ends, and outside of it.
var salts = []api.Salt{{}, {Base: 10, Stride: 3}, {Base: 1000, Stride: 1000}, {Base: -5, Stride: 5000}}

// thing is a node, as a test writes it down.
type thing struct {
	kind  int
	name  string
	data  string
	attrs []api.Attr
	kids  []thing
}

func text(data string) thing    { return thing{kind: tree.Text, data: data} }
func comment(data string) thing { return thing{kind: tree.Comment, data: data} }

// element is an element without attributes.
func element(name string, kids ...thing) thing {
	return thing{kind: tree.Element, name: name, kids: kids}
}

// with is a thing with more attributes: names and values by turns.
func (x thing) with(words ...string) thing {
	x.attrs = slices.Clone(x.attrs)
	for i := 0; i+1 < len(words); i += 2 {
		x.attrs = append(x.attrs, api.Attr{Name: words[i], Value: words[i+1]})
	}
	return x
}

// plant makes the nodes of a thing, which stay detached, and returns the outermost one.
func plant(t *testing.T, x *tree.Tree, from thing) api.Handle {
	t.Helper()
	h, e := x.Make(from.kind, from.name, from.data, from.attrs)
	if e != api.OK {
		t.Fatalf("Make of %+v returns the error %d", from, e)
	}
	for _, kid := range from.kids {
		put(t, x, h, plant(t, x, kid))
	}
	return h
}

// put makes a node the last child of a parent.
func put(t *testing.T, x *tree.Tree, parent, h api.Handle) {
	t.Helper()
	if _, e := x.Insert(parent, h, 0); e != api.OK {
		t.Fatalf("Insert of %d into %d returns the error %d", h, parent, e)
	}
}

// first returns the first element with that name of a document.
func first(x *tree.Tree, name string) api.Handle {
	for h := range x.Walk(x.Root) {
		if n, _ := x.Node(h); n.Name == name {
			return h
		}
	}
	return 0
}

// same checks a result of one of the functions.
func same(t *testing.T, what, got, want string) {
	t.Helper()
	if got != want {
		t.Errorf("%s is %.2000q, not %.2000q", what, got, want)
	}
}

// marks checks the markup of a thing, that of its children, and its outline, for a detached node, and in a document.
func marks(t *testing.T, from thing, outer, inner, outline string) {
	t.Helper()
	for _, salt := range salts {
		x := tree.New(salt)
		h := plant(t, x, from)
		check := func() {
			t.Helper()
			same(t, "Outer", serialize.Outer(x, h), outer)
			same(t, "Inner", serialize.Inner(x, h), inner)
			same(t, "Outline", serialize.Outline(x, h), outline)
		}
		check()
		parent := plant(t, x, element("div", element("br"), text("ahead")))
		put(t, x, parent, h)
		put(t, x, parent, plant(t, x, text("behind")))
		put(t, x, x.Root, parent)
		check()
	}
}

func TestElement(t *testing.T) {
	marks(t, element("p"), "<p></p>", "", "<p>\n")
	marks(t, element("p", text("a"), element("b", text("c")), text("d")), "<p>a<b>c</b>d</p>", "a<b>c</b>d", "<p>\n  \"a\"\n  <b>\n    \"c\"\n  \"d\"\n")
	marks(t, element("a", text("1 < 2")).with("href", `x"&y`), `<a href="x&quot;&amp;y">1 &lt; 2</a>`, "1 &lt; 2", "<a href=\"x&quot;&amp;y\">\n  \"1 < 2\"\n")
	marks(t, element("ul", element("li", element("b")), comment("c"), element("li")), "<ul><li><b></b></li><!--c--><li></li></ul>", "<li><b></b></li><!--c--><li></li>", "<ul>\n  <li>\n    <b>\n  <!--c-->\n  <li>\n")
	marks(t, element("x<y", text("z")), "<x<y>z</x<y>", "z", "<x<y>\n  \"z\"\n")
	marks(t, element("xé\"", text("z")), "<xé\">z</xé\">", "z", "<xé\">\n  \"z\"\n")
}

func TestAttributes(t *testing.T) {
	// The order is that of the attributes, not that of their names.
	marks(t, element("p").with("b", "1", "a", "", "c", "2"), `<p b="1" a="" c="2"></p>`, "", "<p b=\"1\" a=\"\" c=\"2\">\n")
	marks(t, element("p").with("a", "<'>\"\"&amp;"), `<p a="<'>&quot;&quot;&amp;amp;"></p>`, "", "<p a=\"<'>&quot;&quot;&amp;amp;\">\n")
	marks(t, element("p").with("a", "1\r\n2\t"), "<p a=\"1&#13;\n2\t\"></p>", "", "<p a=\"1&#13;&#10;2\t\">\n")
	marks(t, element("p").with("a", "\n\n&#10;"), "<p a=\"\n\n&amp;#10;\"></p>", "", "<p a=\"&#10;&#10;&amp;#10;\">\n")
	// Names are not escaped.
	marks(t, element("p").with("=", "1", `"&`, "2", "<", "3"), `<p =="1" "&="2" <="3"></p>`, "", "<p ==\"1\" \"&=\"2\" <=\"3\">\n")
	marks(t, element("br").with("a", "é\xFF"), "<br a=\"é\uFFFD\">", "", "<br a=\"é\uFFFD\">\n")
}

func TestText(t *testing.T) {
	marks(t, text("a"), "a", "", "\"a\"\n")
	marks(t, text(""), "", "", "\"\"\n")
	marks(t, text(`<a> & "b" 'c' &lt;`), `&lt;a&gt; &amp; "b" 'c' &amp;lt;`, "", "\"<a> &amp; &quot;b&quot; 'c' &amp;lt;\"\n")
	marks(t, text("1\r2\r\n3\n \t"), "1&#13;2&#13;\n3\n \t", "", "\"1&#13;2&#13;&#10;3&#10; \t\"\n")
	marks(t, text("€\x00\xFF"), "€\x00\uFFFD", "", "\"€\x00\uFFFD\"\n")
	// Neighbours are written one after the other.
	marks(t, element("p", text("a"), text(""), text("b")), "<p>ab</p>", "ab", "<p>\n  \"a\"\n  \"\"\n  \"b\"\n")
}

func TestComment(t *testing.T) {
	marks(t, comment("a"), "<!--a-->", "", "<!--a-->\n")
	marks(t, comment(""), "<!---->", "", "<!---->\n")
	// Nothing is escaped, also where the comment ends too early by that.
	marks(t, comment("<a> & \"b\" --> -"), "<!--<a> & \"b\" --> --->", "", "<!--<a> & \"b\" --> --->\n")
	marks(t, comment("1\r\n2\n"), "<!--1\r\n2\n-->", "", "<!--1\r&#10;2&#10;-->\n")
}

func TestVoidElements(t *testing.T) {
	for name := range strings.FieldsSeq("area base br col hr img input link meta") {
		marks(t, element(name), "<"+name+">", "", "<"+name+">\n")
		// What scripts may put into such an element is no part of its markup.
		marks(t, element(name, text("a<"), element("b")), "<"+name+">", "a&lt;<b></b>", "<"+name+">\n  \"a<\"\n  <b>\n")
	}
	marks(t, element("brx"), "<brx></brx>", "", "<brx>\n")
	marks(t, element("p", text("a"), element("br", text("b")), text("c")), "<p>a<br>c</p>", "a<br>c", "<p>\n  \"a\"\n  <br>\n    \"b\"\n  \"c\"\n")
}

func TestRawElements(t *testing.T) {
	for name := range strings.FieldsSeq("script style") {
		marks(t, element(name, text("a<b && \"c\"\r\n>")), "<"+name+">a<b && \"c\"\r\n></"+name+">", "a<b && \"c\"\r\n>", "<"+name+">\n  \"a<b &amp;&amp; &quot;c&quot;&#13;&#10;>\"\n")
		// It is the parent that counts, not another ancestor.
		marks(t, element(name, text("<"), element("b", text("<"))), "<"+name+"><<b>&lt;</b></"+name+">", "<<b>&lt;</b>", "<"+name+">\n  \"<\"\n  <b>\n    \"<\"\n")
		marks(t, element(name, comment("&"), text("</"+name+">")).with("a", "&"), "<"+name+" a=\"&amp;\"><!--&--></"+name+"></"+name+">", "<!--&--></"+name+">", "<"+name+" a=\"&amp;\">\n  <!--&-->\n  \"</"+name+">\"\n")
	}
	for name := range strings.FieldsSeq("title textarea p scripts") {
		marks(t, element(name, text("a<\r&lt;")), "<"+name+">a&lt;&#13;&amp;lt;</"+name+">", "a&lt;&#13;&amp;lt;", "<"+name+">\n  \"a<&#13;&amp;lt;\"\n")
	}
}

// A text has the markup that its place asks for, also if it is asked for alone.
func TestTextOfRawElement(t *testing.T) {
	x := tree.New(api.Salt{Base: 10, Stride: 3})
	h := plant(t, x, text("a<b"))
	same(t, "Outer of a detached text", serialize.Outer(x, h), "a&lt;b")
	for name, want := range map[string]string{"script": "a<b", "style": "a<b", "title": "a&lt;b", "p": "a&lt;b"} {
		put(t, x, plant(t, x, element(name)), h)
		same(t, "Outer of a text in "+name, serialize.Outer(x, h), want)
		same(t, "Outline of a text in "+name, serialize.Outline(x, h), "\"a<b\"\n")
	}
	put(t, x, plant(t, x, element("script")), h)
	x.Remove(h)
	same(t, "Outer of a text that was removed", serialize.Outer(x, h), "a&lt;b")
}

func TestDocument(t *testing.T) {
	for _, salt := range salts {
		x := tree.New(salt)
		same(t, "Outer", serialize.Outer(x, x.Root), "")
		same(t, "Inner", serialize.Inner(x, x.Root), "")
		same(t, "Outline", serialize.Outline(x, x.Root), "#document\n")
		put(t, x, x.Root, plant(t, x, comment("a")))
		put(t, x, x.Root, plant(t, x, element("html", element("p"))))
		put(t, x, x.Root, plant(t, x, comment("b\n")))
		plant(t, x, element("p", text("detached")))
		const want = "<!--a--><html><p></p></html><!--b\n-->"
		same(t, "Outer", serialize.Outer(x, x.Root), want)
		same(t, "Inner", serialize.Inner(x, x.Root), want)
		same(t, "Outline", serialize.Outline(x, x.Root), "#document\n  <!--a-->\n  <html>\n    <p>\n  <!--b&#10;-->\n")
	}
}

func TestBuiltDocuments(t *testing.T) {
	for s, want := range map[string][2]string{
		"": {"<html><head></head><body></body></html>", "#document\n  <html>\n    <head>\n    <body>\n"},
		"<p>a<b>c": {
			"<html><head></head><body><p>a<b>c</b></p></body></html>",
			"#document\n  <html>\n    <head>\n    <body>\n      <p>\n        \"a\"\n        <b>\n          \"c\"\n",
		},
		"<!--x--><title>&amp;</title><br>&lt;<script>1<2</script>": {
			"<!--x--><html><head><title>&amp;</title></head><body><br>&lt;<script>1<2</script></body></html>",
			"#document\n  <!--x-->\n  <html>\n    <head>\n      <title>\n        \"&amp;\"\n    <body>\n      <br>\n      \"<\"\n      <script>\n        \"1<2\"\n",
		},
	} {
		x := treebuild.Build(s, api.Salt{})
		same(t, "Outer of "+s, serialize.Outer(x, x.Root), want[0])
		same(t, "Outline of "+s, serialize.Outline(x, x.Root), want[1])
	}
}

func TestTag(t *testing.T) {
	for want, n := range map[string]tree.Node{
		"<p>":                      {Kind: tree.Element, Name: "p"},
		"<br>":                     {Kind: tree.Element, Name: "br", Data: "x", Parent: 1, First: 2, Last: 2},
		`<p a="&quot;" b="&amp;">`: {Kind: tree.Element, Name: "p", Attrs: []api.Attr{{Name: "a", Value: `"`}, {Name: "b", Value: "&"}}},
		"<p a=\"\n&#13;\">":        {Kind: tree.Element, Name: "p", Attrs: []api.Attr{{Name: "a", Value: "\n\r"}}},
		// No tree has such an element, but names are written as they are.
		"<A b c d=\"\xFF\" d=\"\">": {Kind: tree.Element, Name: "A b", Attrs: []api.Attr{{Name: "c d", Value: "\xFF"}, {Name: "d"}}},
		"<>":                        {Kind: tree.Element},
	} {
		same(t, "Tag", serialize.Tag(n), want)
	}
}

func TestTagOfOtherKinds(t *testing.T) {
	for _, kind := range []int{0, tree.Document, tree.Text, tree.Comment, 5, -1} {
		same(t, "Tag", serialize.Tag(tree.Node{Kind: kind, Name: "p", Data: "x", Attrs: []api.Attr{{Name: "a", Value: "b"}}}), "")
	}
}

func TestNoNode(t *testing.T) {
	x := treebuild.Build("<p>a", api.Salt{Base: 10, Stride: 3})
	dropped := plant(t, x, element("b"))
	x.Drop(dropped)
	trees := map[*tree.Tree][]api.Handle{
		x:   {0, -1, 1, 9, 11, dropped, 1 << 40},
		nil: {0, 1, -1},
		{}:  {0, 1, -1},
	}
	for x, handles := range trees {
		for _, h := range handles {
			same(t, "Outer", serialize.Outer(x, h), "")
			same(t, "Inner", serialize.Inner(x, h), "")
			same(t, "Outline", serialize.Outline(x, h), "")
		}
	}
}

// The greatest trees are written whole.
func TestLimits(t *testing.T) {
	levels := api.MaxDepth - 3
	x := treebuild.Build(strings.Repeat("<x>", 2*api.MaxDepth), api.Salt{})
	same(t, "Inner", serialize.Inner(x, first(x, "body")), strings.Repeat("<x>", levels)+strings.Repeat("</x>", levels))
	lines := strings.Split(serialize.Outline(x, x.Root), "\n")
	// The head is a line beside those of the innermost element and what contains it.
	if last := lines[len(lines)-2]; len(lines) != api.MaxDepth+2 || last != strings.Repeat("  ", api.MaxDepth-1)+"<x>" {
		t.Errorf("the outline has %d lines, the last one %q", len(lines), last)
	}

	count := api.MaxNodes - 4
	x = treebuild.Build(strings.Repeat("<br>", api.MaxNodes), api.Salt{})
	same(t, "Inner", serialize.Inner(x, first(x, "body")), strings.Repeat("<br>", count))
	same(t, "Outline", serialize.Outline(x, first(x, "body")), "<body>\n"+strings.Repeat("  <br>\n", count))

	long := strings.Repeat("&", api.MaxString)
	x = tree.New(api.Salt{})
	h := plant(t, x, element("p", text(long)).with("a", long))
	long = strings.Repeat("&amp;", api.MaxString)
	same(t, "Outer", serialize.Outer(x, h), `<p a="`+long+`">`+long+"</p>")
}

// Neither the tree nor a node is changed.
func TestArgumentsStay(t *testing.T) {
	x := treebuild.Build("<!--a--><p b='\"' c=d>e&<script>f<", api.Salt{})
	before := x.Nodes.Clone()
	n, _ := x.Node(first(x, "p"))
	attrs := slices.Clone(n.Attrs)
	for h := range x.Nodes.All() {
		serialize.Outer(x, h)
		serialize.Inner(x, h)
		serialize.Outline(x, h)
	}
	serialize.Tag(n)
	equal := func(a, b api.Handle) bool { return tree.Same(x, a, &tree.Tree{Nodes: before, Root: x.Root}, b) }
	if !equal(x.Root, x.Root) || x.Nodes.Len() != before.Len() || !slices.Equal(n.Attrs, attrs) {
		t.Error("the tree or the node was changed")
	}
}

package serialize_test

import (
	"fmt"
	"strings"
	"testing"

	"knapsack/api"
	"knapsack/serialize"
	"knapsack/tree"
	"knapsack/treebuild"
)

// again checks that the markup of the tree of a document gives the same tree. It reports whether the promise says so of the document.
func again(t *testing.T, s string) bool {
	t.Helper()
	x := treebuild.Build(s, api.Salt{})
	markup := serialize.Outer(x, x.Root)
	if len(s) > 10000 || len(markup) > api.MaxSource || first(x, "table") != 0 {
		return false
	}
	y := treebuild.Build(markup, api.Salt{Base: 10, Stride: 3})
	if !tree.Same(x, x.Root, y, y.Root) {
		t.Errorf("%.500q gives %.500q, and this the tree\n%.1000s\nnot\n%.1000s", s, markup, serialize.Outline(y, y.Root), serialize.Outline(x, x.Root))
	}
	return true
}

// sure is again for a document of which the promise has to say so.
func sure(t *testing.T, s string) {
	t.Helper()
	if !again(t, s) {
		t.Errorf("the document %.500q is outside of the promise", s)
	}
}

func TestAgain(t *testing.T) {
	for _, s := range []string{
		"", " ", "x", " x ", "<p>a<p>b<b>c<i>d</b>e", "<b><div>x</b>y</div>z",
		"<!--a--> <html b=c><!--d--><head e><!--f--></head><!--g--><title>h</title><body i=j> k<!--l--></body> m</html><!--n-->",
		"<title>a&lt;/title&gt;</title><textarea>\n &amp;lt;</textarea>",
		"<script>a<b && c > d</script><style>&lt;</style>e<script>f",
		"<script></script", "<script>a</script", "<script>a</</script>", "<script><</script>", "<script>&#13;\r</script>",
		"a&#13;b&#13;\nc\rd\r\ne", "<p a='&#13;\r&quot;' b=\"'\" c=&amp;lt;>", "<p =a = b 'c'=d \"e\" <f &g>",
		"<x<y>a</x<y>b", "<x=y>a", "<é>\xFF\x00</é>", "</>a</ b><?c><!d>", "<!>", "<!->", "<!-->", "<!--a-", "<!--a--", "<!--a--!>b", "<!--<p>&lt;--><!x-->",
		"a<", "a</", "<a", "<a b", "<a b=\"c", "</p", "</p></br></x>", "1 < 2 & 3 > 2 \"q\"",
		"<p><button><p>a<button>b</button>c", "<li>a<ul><li>b<li>c</ul>d<li>e", "<ul><button><li>a<li>b", "<h1>a<h2>b</h3><h3><i><h4>c",
		"<a>1<a>2<div>3<a>4<b>5<a>6", "<a><b><a>x", "<form>a<form>b</form>c<form>d", "<p><u><i><s><b><em>a<p>b<div>c</div>d",
		"<td>a<tr>b<caption>c</tbody>", "<hr><p>a<hr>b<br/><br></br><img a><input/>c",
	} {
		sure(t, s)
	}
}

func TestAgainAtLimits(t *testing.T) {
	for _, s := range []string{
		// Each of these paragraphs has six nodes for four bytes.
		"<p><b><b><b><b>" + strings.Repeat("<p>x", 2496),
		strings.Repeat("<p><b>", 1666),
		strings.Repeat("<div>", 1000) + "x<!--y-->",
		strings.Repeat("<p><i><b>", 126) + "a<div>b<div>c",
		strings.Repeat("<b>", 200) + strings.Repeat("</b><i>x", 500),
		strings.Repeat("</p>", 2500), strings.Repeat("a<!>", 2500), strings.Repeat("&", 10000), strings.Repeat("\xFF", 10000),
	} {
		sure(t, s)
	}
	levels := api.MaxDepth - 3
	for more := range 6 {
		ahead := strings.Repeat("<div>", levels-more)
		for _, s := range []string{"<p><b><i>a</p>b<p>c", "<script>a</script>b", "<textarea>a</textarea>", "<u><i><b><div>a</u>b", "<a>b<a>c<button>d<button>e", "</p>a</br><!--b-->"} {
			sure(t, ahead+s)
			sure(t, ahead+"<b><i>"+s+"</div>x</div>y")
		}
	}
	attrs := ""
	for i := range 2 * api.MaxAttrs {
		attrs += fmt.Sprintf(" a%d=%d", i, i)
	}
	sure(t, "<p"+attrs+"><html b"+attrs+"><body c"+attrs+">")
}

// documentParts returns parts of documents, among them each tag for which there is a rule.
func documentParts() []string {
	parts := []string{
		"x", "x ", " ", "\n", "\r", "&", "&lt;", "&#13;", "&amp;lt;", "<", "</", "<!", "<!--", "-->", "-", ">", "</>", "\"", "=", "\xFF", "\x00",
		"<!--c-->", "<!-->", "<!doctype d>", "<?e>", "<html a=1>", "<body a=2 b='\"'>", "<head c>", "<b d=5>", "<x =y \"z\"='<&#13;'>", "<x<y>", "</x<y>",
		"<script>if (a<b) </scrip</script>", "<style>&lt;</style>", "<title>&lt;</title>", "<textarea><b></textarea>",
	}
	for name := range strings.FieldsSeq("html head body title script style textarea p div ul ol li h1 h2 a b i u s em code strong span br hr button form td link meta x") {
		parts = append(parts, "<"+name+">", "</"+name+">")
	}
	return parts
}

func TestAnyDocumentAgain(t *testing.T) {
	next, parts := random(), documentParts()
	count := 0
	for i := range 8000 {
		often := make([]string, 8)
		for i := range often {
			often[i] = parts[next(len(parts))]
		}
		s := ""
		if next(20) == 0 {
			s = strings.Repeat("<div>", 115+next(12))
		}
		size := next(30)
		if i%500 == 0 {
			size = 2000
		}
		for range size {
			if next(3) == 0 {
				s += parts[next(len(parts))]
			} else {
				s += often[next(len(often))]
			}
		}
		if again(t, s[:min(len(s), 10000)]) {
			count++
		}
	}
	if count < 7500 {
		t.Error("only", count, "documents are within the promise")
	}
}

// fragmentAgain checks that the children of a thing, which is a div, are those that its Inner markup gives in a div with these ancestors (none: a detached one), which had other children before.
func fragmentAgain(t *testing.T, from thing, parents ...string) {
	t.Helper()
	x := tree.New(api.Salt{})
	h := plant(t, x, from)
	inner := serialize.Inner(x, h)

	y := tree.New(api.Salt{Base: 10, Stride: 3})
	div := plant(t, y, element("div", text("a"), element("p")).with("b", "c"))
	at := y.Root
	for _, name := range parents {
		parent := plant(t, y, element(name))
		put(t, y, at, parent)
		at = parent
	}
	if len(parents) > 0 {
		put(t, y, at, div)
	}
	if _, e := treebuild.Fragment(y, div, inner); e != api.OK {
		t.Fatalf("Fragment of %.500q returns the error %d", inner, e)
	}
	kids, got := x.Kids(h), y.Kids(div)
	if len(got) != len(kids) {
		t.Fatalf("%.500q gives %d children, not %d", inner, len(got), len(kids))
	}
	for i, kid := range kids {
		if !tree.Same(x, kid, y, got[i]) {
			t.Errorf("%.500q gives the child\n%.1000s\nnot\n%.1000s", inner, serialize.Outline(y, got[i]), serialize.Outline(x, kid))
		}
	}
}

func TestFragmentAgain(t *testing.T) {
	for _, kids := range [][]thing{
		{},
		{text("a")}, {text(" ")}, {text("\n")}, {text("\r")}, {text("\r\n\r")},
		{text("<b>&amp;</div>&<!--c-->")}, {text("\"'\x00\uFFFD")},
		{element("div")}, {element("span")}, {text(" "), element("span"), text(" "), element("div"), text(" ")},
		{element("div", element("div", text("a")), element("div")), element("span", element("span", text("b"))), element("div", element("span"))},
		{element("div").with("a", "", "=", "\r\n", "\"", "\"'<>&quot;&", "é", " x "), element("span", text("a")).with("class", "b c")},
	} {
		from := element("div", kids...)
		fragmentAgain(t, from)
		fragmentAgain(t, from, "html", "body")
		fragmentAgain(t, from, "p", "b", "a", "div", "span", "form")
		fragmentAgain(t, from, "table", "tr", "td", "button", "li")
	}
}

func TestFragmentAgainAtLimits(t *testing.T) {
	deep, wide := element("span", text("a")), element("div")
	for deep.depth() < api.MaxDepth {
		deep = element("div", deep)
	}
	for i := range api.MaxAttrs {
		wide = wide.with(fmt.Sprint("a", i), "b")
	}
	fragmentAgain(t, deep)
	fragmentAgain(t, element("div", wide, wide))
	fragmentAgain(t, element("div", text(strings.Repeat("<", api.MaxString))))
}

// depth is the number of levels of a thing.
func (x thing) depth() int {
	most := 0
	for _, kid := range x.kids {
		most = max(most, kid.depth())
	}
	return most + 1
}

// randomKids returns children of a div, or of a span, which contains no div, as the promise describes them.
func randomKids(next func(below int) int, parent string, levels int) []thing {
	var kids []thing
	for range next(5) {
		data := randomData(next)
		switch after := len(kids) > 0 && kids[len(kids)-1].kind == tree.Text; {
		case next(3) == 0 && data != "" && !after:
			kids = append(kids, text(data))
		case levels > 0:
			name := "span"
			if parent == "div" && next(2) == 0 {
				name = "div"
			}
			kid := element(name, randomKids(next, name, levels-1)...)
			kid.attrs = randomAttrs(next)
			kids = append(kids, kid)
		}
	}
	return kids
}

func TestAnyFragmentAgain(t *testing.T) {
	next := random()
	for range 3000 {
		fragmentAgain(t, element("div", randomKids(next, "div", 5)...))
	}
}

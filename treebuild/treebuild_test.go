package treebuild_test

import (
	"fmt"
	"slices"
	"strings"
	"testing"

	"knapsack/api"
	"knapsack/tree"
	"knapsack/treebuild"
)

// salts have numbers within the range from 1 to 1000, at its ends, and outside of it.
var salts = []api.Salt{{}, {Base: 10, Stride: 3}, {Base: 1000, Stride: 1000}, {Base: -5, Stride: 5000}}

// random returns a function whose results are those of a fixed sequence, each reduced to less than its argument.
func random() func(below int) int {
	state := uint64(1)
	return func(below int) int {
		state = state*6364136223846793005 + 1442695040888963407
		return int(state>>33) % below
	}
}

// look writes a node and its descendants in a short form.
func look(t *tree.Tree, h api.Handle) string {
	n, ok := t.Node(h)
	switch {
	case !ok:
		return "nothing"
	case n.Kind == tree.Text:
		return fmt.Sprintf("%q", n.Data)
	case n.Kind == tree.Comment:
		return "!" + n.Data
	case n.Kind == tree.Document:
		n.Name = "#"
	}
	var parts []string
	for _, a := range n.Attrs {
		parts = append(parts, a.Name+"="+a.Value)
	}
	for _, kid := range t.Kids(h) {
		parts = append(parts, look(t, kid))
	}
	if parts == nil {
		return n.Name
	}
	return n.Name + "(" + strings.Join(parts, " ") + ")"
}

// names writes the names of elements, "?" for what is none.
func names(t *tree.Tree, list []api.Handle) string {
	var words []string
	for _, h := range list {
		n, _ := t.Node(h)
		if n.Name == "" {
			n.Name = "?"
		}
		words = append(words, n.Name)
	}
	return strings.Join(words, " ")
}

// short returns the beginning of a long string.
func short(s string) string {
	if len(s) <= 300 {
		return s
	}
	return s[:300] + ".."
}

// builds checks the tree of a whole document.
func builds(t *testing.T, s, want string) {
	t.Helper()
	x := treebuild.Build(s, api.Salt{Base: 10, Stride: 3})
	if got := look(x, x.Root); got != want {
		t.Errorf("Build(%.200q) is %s, not %s", s, short(got), short(want))
	}
	if !x.Valid() {
		t.Errorf("Build(%.200q) is not valid", s)
	}
}

// fills checks what a whole document has in its body; its head is empty.
func fills(t *testing.T, s, want string) {
	t.Helper()
	if want != "" {
		want = "(" + want + ")"
	}
	builds(t, s, "#(html(head body"+want+"))")
}

// site is a document under construction.
type site struct {
	*testing.T
	b treebuild.Builder
	t *tree.Tree
}

func newSite(t *testing.T) *site { return &site{T: t, t: tree.New(api.Salt{Base: 10, Stride: 3})} }

// feed feeds a text whose tokens are all complete, and makes the steps that are possible; it returns their events.
func (s *site) feed(text string) []treebuild.Event {
	s.Helper()
	s.b.Feed(text)
	var events []treebuild.Event
	for {
		event := s.b.Step(s.t)
		if event.Kind == treebuild.Wait {
			return events
		}
		events = append(events, event)
		if len(events) > len(text) {
			s.Fatalf("there are more steps than bytes in %.200q", text)
		}
	}
}

// has checks the open elements, those that are to be opened again, and the tree.
func (s *site) has(open, reopen, want string) {
	s.Helper()
	if got := names(s.t, s.b.Open); got != open {
		s.Errorf("the open elements are %s, not %s", short(got), short(open))
	}
	if got := names(s.t, s.b.Reopen); got != reopen {
		s.Errorf("the elements to be opened again are %s, not %s", got, reopen)
	}
	if got := look(s.t, s.t.Root); got != want {
		s.Errorf("the tree is %s, not %s", short(got), short(want))
	}
	if !s.t.Valid() {
		s.Error("the tree is not valid")
	}
}

func TestExamples(t *testing.T) {
	fills(t, "<p>a<b>c", `p("a" b("c"))`)
	fills(t, "<p>a<p>b<b>c<i>d</b>e", `p("a") p("b" b("c" i("d")) i("e"))`)
	fills(t, "<table>x<td>y", `"x" table(tbody(tr(td("y"))))`)
	builds(t, "<title>t</title><li>1<li>2</p>", `#(html(head(title("t")) body(li("1") li("2" p))))`)
	fills(t, "<b><div>x</b>y", `b(div("xy"))`)
}

func TestDocumentParts(t *testing.T) {
	for s, want := range map[string]string{
		"":                          "#(html(head body))",
		" \n\t":                     "#(html(head body))",
		"<!doctype html>":           "#(html(head body))",
		"<html>":                    "#(html(head body))",
		"<head>":                    "#(html(head body))",
		"<body>":                    "#(html(head body))",
		"</html></body></head>":     "#(html(head body))",
		"<html a=1 b=2>":            "#(html(a=1 b=2 head body))",
		"<html a=1><html a=2 b=3>":  "#(html(a=1 b=3 head body))",
		"<p><html a=1>x":            `#(html(a=1 head body(p("x"))))`,
		"<head a=1><head a=2 b=3>":  "#(html(head(a=1) body))",
		"<html a=1><head a=2>":      "#(html(a=1 head(a=2) body))",
		"<head></head><head a=1>":   "#(html(head body))",
		"<body><head a=1>":          "#(html(head body))",
		"<title></title><head a=1>": "#(html(head(title) body))",
		"<body a=1>":                "#(html(head body(a=1)))",
		"<body a=1><body a=2 b=3>":  "#(html(head body(a=1 b=3)))",
		"<p>x<body a=1>y":           `#(html(head body(a=1 p("xy"))))`,
		"<head><title>t</title></head><body>x</body></html>y": `#(html(head(title("t")) body("xy")))`,
		"<head></head> <title>t</title>":                      `#(html(head(title("t")) body))`,
		"<head> <!--c--></head> <!--d--> <!--e--><body>":      "#(html(head(!c) !d !e body))",
		"<!--a--><html><!--b--><head>":                        "#(!a html(!b head body))",
		"<!--a--><!--b--> <!--c-->x<!--d-->":                  `#(!a !b !c html(head body("x" !d)))`,
		"<html><!--a--><body></body><!--b--></html><!--c-->":  "#(html(!a head body(!b !c)))",
		"<head></head><!--a--><meta><!--b-->":                 "#(html(head(meta !b) !a body))",
	} {
		builds(t, s, want)
	}
}

func TestHead(t *testing.T) {
	for s, want := range map[string]string{
		"<base a=1><link><meta>":                   "#(html(head(base(a=1) link meta) body))",
		"<title>a<b>&lt;</title>x":                 `#(html(head(title("a<b><")) body("x")))`,
		"<style>a<b>&lt;</style>x":                 `#(html(head(style("a<b>&lt;")) body("x")))`,
		"<script>a</script> <script>b</script><p>": `#(html(head(script("a") script("b")) body(p)))`,
		"<script> </script>":                       `#(html(head(script(" ")) body))`,
		"<script/>x":                               `#(html(head(script("x")) body))`,
		"<script>x":                                `#(html(head(script("x")) body))`,
		"<meta></meta></head></b></x>":             "#(html(head(meta) body))",
		"<title></title></title><link>":            "#(html(head(title link) body))",
		"<p><meta><title>t</title><link>x":         `#(html(head body(p(meta title("t") link "x"))))`,
		"<head><p>x</head>y":                       `#(html(head body(p("xy"))))`,
		"<head> x":                                 `#(html(head body(" x")))`,
		"<meta>\n<link>\n x":                       `#(html(head(meta link) body("\n x")))`,
	} {
		builds(t, s, want)
	}
}

func TestTexts(t *testing.T) {
	for s, want := range map[string]string{
		"a</x>b":                        `"ab"`,
		"a<!---->b":                     `"a" ! "b"`,
		"a<br>b":                        `"a" br "b"`,
		"a<p>b</p>c":                    `"a" p("b") "c"`,
		"<p> </p> ":                     `p(" ") " "`,
		"a\xFFb\r\nc\x00":               `"a�b\nc\x00"`,
		"<textarea> <b>&lt;</textarea>": `textarea(" <b><")`,
		"<p><script>a<b</script>c":      `p(script("a<b") "c")`,
	} {
		fills(t, s, want)
	}
}

func TestParagraphs(t *testing.T) {
	for s, want := range map[string]string{
		"<p>a<p>b":                        `p("a") p("b")`,
		"<p>a<span>b<div>c":               `p("a" span("b")) div("c")`,
		"<p>a<span>b</p>c":                `p("a" span("b")) "c"`,
		"a</p>b":                          `"a" p "b"`,
		"</p>":                            "p",
		"<p a=1>x</p></p>":                `p(a=1 "x") p`,
		"<p><button><p>a</p>b</p>c":       `p(button(p("a") "b" p "c"))`,
		"<p><table><td><p>a":              `p table(tbody(tr(td(p("a")))))`,
		"<p><x>a<hr>b":                    `p(x("a")) hr "b"`,
		"<p><pre>a</pre>b":                `p pre("a") "b"`,
		"<p>a<li>b<p>c<li>d":              `p("a") li("b" p("c")) li("d")`,
		"<table></p>x":                    `p "x" table`,
		"<p>a<title>t</title><textarea>b": `p("a" title("t") textarea("b"))`,
		"<div><p>a</div>b</p>c":           `div(p("a")) "b" p "c"`,
		"<p><br><img><input><area><col>a": `p(br img input area col "a")`,
	} {
		fills(t, s, want)
	}
	for _, name := range strings.Fields("address article blockquote div footer form h1 h2 h3 h4 h5 h6 header hr main nav ol p pre section table ul") {
		fills(t, "<p>a<"+name+">", `p("a") `+name)
	}
	for _, name := range strings.Fields("a b code em i s small strong u button span x h7 h0 h h10 select dl fieldset body2") {
		fills(t, "<p>a<"+name+">", `p("a" `+name+")")
	}
}

func TestLists(t *testing.T) {
	for s, want := range map[string]string{
		"<ul><li>a<li>b</ul>c":          `ul(li("a") li("b")) "c"`,
		"<ul><li>a<ul><li>b<li>c</ul>d": `ul(li("a" ul(li("b") li("c")) "d"))`,
		"<li>a<ol><li>b</li></li>c":     `li("a" ol(li("b") "c"))`,
		"<li>a<div>b<li>c":              `li("a" div("b")) li("c")`,
		"<li>a<button>b<li>c":           `li("a" button("b" li("c")))`,
		"<li>a<div>b</li>c":             `li("a" div("b")) "c"`,
		"<li>a<button>b</li>c":          `li("a" button("bc"))`,
		"<ul>a</li>b":                   `ul("ab")`,
		"<ul><p>a<li>b":                 `ul(p("a") li("b"))`,
		"<p>a<ul>b<li>c</ul>d":          `p("a") ul("b" li("c")) "d"`,
		"<ol><li><b>a<li>b</ol>c":       `ol(li(b("a")) li(b("b"))) b("c")`,
	} {
		fills(t, s, want)
	}
}

func TestHeadings(t *testing.T) {
	for s, want := range map[string]string{
		"<h1>a<h2>b":           `h1("a") h2("b")`,
		"<h1>a</h3>b":          `h1("a") "b"`,
		"<h1>a<x>b</h6>c":      `h1("a" x("b")) "c"`,
		"<h1>a<x>b<h2>c":       `h1("a" x("b" h2("c")))`,
		"<h1>a<x>b<h2>c</h1>d": `h1("a" x("b" h2("c") "d"))`,
		"<h1>a<p>b<h2>c":       `h1("a" p("b")) h2("c")`,
		"<h1><button>a</h1>b":  `h1(button("ab"))`,
		"a</h1>b":              `"ab"`,
		"<h1>a<hr>b":           `h1("a" hr "b")`,
		"<h1><b>a</h1>b":       `h1(b("a")) b("b")`,
	} {
		fills(t, s, want)
	}
}

func TestButtonsAndForms(t *testing.T) {
	for s, want := range map[string]string{
		"<button>a<button>b":               `button("a") button("b")`,
		"<button>a<x>b<button>c":           `button("a" x("b")) button("c")`,
		"<button>a<b>b<button>c":           `button("a" b("b")) button("c")`,
		"<b><button>a</b>b</button>c":      `b(button("ab") "c")`,
		"<button>a<table><td><button>b":    `button("a" table(tbody(tr(td(button("b"))))))`,
		"<button>a</button>b":              `button("a") "b"`,
		"a</button>b":                      `"ab"`,
		"<form a=1>a<form b=2>b</form>c":   `form(a=1 "ab") "c"`,
		"<form>a</form><form>b":            `form("a") form("b")`,
		"<form><table><td><form>a</form>b": `form(table(tbody(tr(td("ab")))))`,
		"<form><p>a<form>b":                `form(p("ab"))`,
		"<p>a<form>b":                      `p("a") form("b")`,
	} {
		fills(t, s, want)
	}
}

func TestFormatting(t *testing.T) {
	for s, want := range map[string]string{
		"<b>a<i>b</b>c</i>d":                 `b("a" i("b")) i("c") "d"`,
		"<b>a<i>b</b></i>c":                  `b("a" i("b")) "c"`,
		"<b>a<i>b<b>c</b></b></i>d":          `b("a" i("b" b("c"))) "d"`,
		"<p><b>a<p>b":                        `p(b("a")) p(b("b"))`,
		"<p><b>a</p> <p>b":                   `p(b("a")) b(" " p("b"))`,
		"<p><b>a</p><p> b":                   `p(b("a")) p(b(" b"))`,
		"<p><b x=1>a</p></b>c":               `p(b(x=1 "a")) "c"`,
		"<p><b x=1><i>a</p>b":                `p(b(x=1 i("a"))) b(x=1 i("b"))`,
		"<p><b x=1><b x=2>a</p></b>b":        `p(b(x=1 b(x=2 "a"))) b(x=1 "b")`,
		"<p><b><x><i>a</p>b":                 `p(b(x(i("a")))) b(i("b"))`,
		"<p><b>a</p><!--c--><x>b":            `p(b("a")) !c b(x("b"))`,
		"<p><b>a</p><br>":                    `p(b("a")) b(br)`,
		"<p><b>a</p></br>":                   `p(b("a")) b(br)`,
		"<p><b>a</p><button>b":               `p(b("a")) b(button("b"))`,
		"<p><b>a</p><div>b":                  `p(b("a")) div(b("b"))`,
		"<p><b>a</p><meta><link><hr>b":       `p(b("a")) meta link hr b("b")`,
		"<p><b>a</p><title>b</title>c":       `p(b("a")) title("b") b("c")`,
		"<p><b>a</p><script>b</script>c":     `p(b("a")) script("b") b("c")`,
		"<p><b>a</p><textarea>b</textarea>c": `p(b("a")) b(textarea("b") "c")`,
		"<p><b>a</p><li>b":                   `p(b("a")) li(b("b"))`,
		"<b><p>a</b>b":                       `b(p("ab"))`,
		"<b><li>a</b>b":                      `b(li("ab"))`,
		"<b><x>a</b>b":                       `b(x("a")) "b"`,
		"<b><table><td>a</b>b":               `b(table(tbody(tr(td("ab")))))`,
		"<b><x><button>a</b>b":               `b(x(button("ab")))`,
		"<b><h1>a</b>b":                      `b(h1("ab"))`,
		"<b>a</i>b":                          `b("ab")`,
		"<p><b><i><u><s><em>a</p>b":          `p(b(i(u(s(em("a")))))) i(u(s(em("b"))))`,
		"<p><b><i>a</p><p><u><s><em>b</p>c":  `p(b(i("a"))) p(b(i(u(s(em("b")))))) i(u(s(em("c"))))`,
		"<code><em><i><s><small>a</code>b":   `code(em(i(s(small("a"))))) em(i(s(small("b"))))`,
		"<strong><u><b>a</strong>b":          `strong(u(b("a"))) u(b("b"))`,
		"<b>1<p>2<div>3</p>4":                `b("1" p("2") div("3" p "4"))`,
		"<div><b>a</div><div>b":              `div(b("a")) div(b("b"))`,
		"<p><b>a</p><p><i>b</p>c":            `p(b("a")) p(b(i("b"))) b(i("c"))`,
	} {
		fills(t, s, want)
	}
}

func TestFormattingNames(t *testing.T) {
	for name := range strings.FieldsSeq("b code em i s small strong u") {
		fills(t, "<p><"+name+">x</p>y", fmt.Sprintf(`p(%s("x")) %s("y")`, name, name))
		fills(t, "<"+name+"><div>x</"+name+">y", name+`(div("xy"))`)
	}
	for name := range strings.FieldsSeq("a big tt sub sup span cod ins br x") {
		if name != "br" {
			fills(t, "<p><"+name+">x</p>y", fmt.Sprintf(`p(%s("x")) "y"`, name))
		}
	}
}

// From within a barrier, nothing is found that lies outside of it.
func TestBarriers(t *testing.T) {
	for inner, want := range map[string]string{
		"<button>":         "button(%s)",
		"<table><caption>": "table(caption(%s))",
		"<table><td>":      "table(tbody(tr(td(%s))))",
		"<table><th>":      "table(tbody(tr(th(%s))))",
	} {
		fills(t, "<x>"+inner+"a</x>b", "x("+fmt.Sprintf(want, `"ab"`)+")")
		fills(t, "<i>"+inner+"a</i>b", "i("+fmt.Sprintf(want, `"ab"`)+")")
		fills(t, "<li>"+inner+"a<li>b", "li("+fmt.Sprintf(want, `"a" li("b")`)+")")
		fills(t, "<h1>"+inner+"a</h2>b", "h1("+fmt.Sprintf(want, `"ab"`)+")")
	}
	// Other elements are none.
	for name := range strings.FieldsSeq("x div ul ol form section span a h1") {
		fills(t, "<y><"+name+">a</y>b", "y("+name+`("a")) "b"`)
	}
}

func TestAnchors(t *testing.T) {
	for s, want := range map[string]string{
		"<a x=1>a<a x=2>b":             `a(x=1 "a") a(x=2 "b")`,
		"<a>a<b>b<a>c":                 `a("a" b("b")) b(a("c"))`,
		"<a>1<div>2<a>3":               `a("1" div("2" a("3")))`,
		"<p><a>a</p>b":                 `p(a("a")) "b"`,
		"<p><a><b>a</p>b":              `p(a(b("a"))) b("b")`,
		"<p><b><a><i>a</p>b":           `p(b(a(i("a")))) b(i("b"))`,
		"<a><button>a<a>b":             `a(button("a" a("b")))`,
		"<a>a<table><td><a>b</table>c": `a("a" table(tbody(tr(td(a("b"))))) "c")`,
		"<a><table><a>b":               `a(a("b") table)`,
	} {
		fills(t, s, want)
	}
}

func TestTables(t *testing.T) {
	for s, want := range map[string]string{
		"<table><tbody><tr><td>a<td>b<tr><th>c<tfoot><tr><td>d</table>e": `table(tbody(tr(td("a") td("b")) tr(th("c"))) tfoot(tr(td("d")))) "e"`,
		"<table a=1><tr b=2><td c=3>":                                    `table(a=1 tbody(tr(b=2 td(c=3))))`,
		"<table><td a=1>":                                                "table(tbody(tr(td(a=1))))",
		"<table><thead><td>a<caption>b<th>c":                             `table(thead(tr(td("a"))) caption("b") tbody(tr(th("c"))))`,
		"<table><caption>a<tr>":                                          `table(caption("a") tbody(tr))`,
		"<table><caption><b>a<tbody><td>b":                               `table(caption(b("a")) tbody(tr(td("b"))))`,
		"<table><td><div><span>a<td>b":                                   `table(tbody(tr(td(div(span("a"))) td("b"))))`,
		"<table><td><b>a<td>b":                                           `table(tbody(tr(td(b("a")) td("b"))))`,
		"<table><td><b>a</table>b":                                       `table(tbody(tr(td(b("a"))))) "b"`,
		"<table><td><table><td>a<tr><td>b":                               `table(tbody(tr(td(table(tbody(tr(td("a")) tr(td("b"))))))))`,
		"<table><td><table><td>a</table><td>b":                           `table(tbody(tr(td(table(tbody(tr(td("a"))))) td("b"))))`,
		"<table><td><table></td>a":                                       `table(tbody(tr(td("a" table))))`,
		"<table><td>a</td>b<td>c":                                        `"b" table(tbody(tr(td("a") td("c"))))`,
		"<table><td>a</tr>b<td>c":                                        `"b" table(tbody(tr(td("a")) tr(td("c"))))`,
		"<table><td>a</tbody>b<td>c":                                     `"b" table(tbody(tr(td("a"))) tbody(tr(td("c"))))`,
		"<table><td>a</th></thead></caption>b":                           `table(tbody(tr(td("ab"))))`,
		"<table><caption>a</caption>b":                                   `"b" table(caption("a"))`,
		"<td>a<tr>b<tbody>c<caption>d</td></table>e":                     `"abcde"`,
		"<p>a<td>b":             `p("ab")`,
		"<td a=1>b":             `"b"`,
		"<p>a<table>b":          `p("a") "b" table`,
		"<b>a<table><td>b</b>c": `b("a" table(tbody(tr(td("bc")))))`,
		"<table><tr></p>a":      `p "a" table(tbody(tr))`,
	} {
		fills(t, s, want)
	}
}

func TestFostering(t *testing.T) {
	for s, want := range map[string]string{
		"a<table>b<tr>c<td>d</td>e":          `"abce" table(tbody(tr(td("d"))))`,
		"<table> <tbody> <tr> <td> ":         `table(tbody(tr(td(" "))))`,
		"<table> a b ":                       `" a b " table`,
		"<table><!--c--><tr><!--d-->":        "!c !d table(tbody(tr))",
		"<table><div>a</div>b":               `div("a") "b" table`,
		"<table><b>a</b>b<td>c":              `b("a") "b" table(tbody(tr(td("c"))))`,
		"<table><b>a<tr><td>b":               `b("a") table(tbody(tr(td("b"))))`,
		"<table><b>a<tr>b":                   `b("a") "b" table(tbody(tr))`,
		"<table><input><hr>":                 "input hr table",
		"<table><table>a":                    `"a" table table`,
		"<table><td>x<table>y":               `table(tbody(tr(td("xy" table))))`,
		"<table><link><script>a</script>":    `link script("a") table`,
		"<table><form><tr><form><td>b":       `form form table(tbody(tr(td("b"))))`,
		"<table><tr><b><td>a</tr>b":          `b "b" table(tbody(tr(td("a"))))`,
		"<table><tr><td><b>a</tr>b":          `b("b") table(tbody(tr(td(b("a")))))`,
		"<table><tr><td><b>a</tr> <p>b":      `p(b("b")) table(tbody(tr(td(b("a")))))`,
		"<table><tr><td><b><i>a</tr>b":       `b(i("b")) table(tbody(tr(td(b(i("a"))))))`,
		"<table><tr><td><b>a</tr><td>b":      `table(tbody(tr(td(b("a"))) tr(td("b"))))`,
		"<table><caption>a<table>b</table>c": `table(caption("ab" table "c"))`,
	} {
		fills(t, s, want)
	}
}

func TestOtherElements(t *testing.T) {
	for s, want := range map[string]string{
		"<x>a<y>b</x>c":          `x("a" y("b")) "c"`,
		"<x>a<y>b</z>c":          `x("a" y("bc"))`,
		"<x><table><td>a</x>b":   `x(table(tbody(tr(td("ab")))))`,
		"<x><button>a</x>b":      `x(button("ab"))`,
		"<x><x>a</x>b</x>c":      `x(x("a") "b") "c"`,
		"<x/>a":                  `x("a")`,
		"<br/>a</br>b":           `br "a" br "b"`,
		"</br a=1>":              "br",
		"a</hr>b</img></input>c": `"abc"`,
		"<X Y=Z>a</x >b":         `x(y=Z "a") "b"`,
		"<x<y é=1>a":             `x<y(é=1 "a")`,
		"<div><x><i>a</div>b":    `div(x(i("a"))) i("b")`,
		"a</script></style>b":    `"ab"`,
	} {
		fills(t, s, want)
	}
}

func TestState(t *testing.T) {
	s := newSite(t)
	s.has("", "", "#")
	s.feed("<!--a--><!doctype b> <head>")
	s.has("html head", "", "#(!a html(head))")
	if s.b.Html == 0 || s.b.Head == 0 || s.b.Body != 0 {
		t.Error("html, head and body are", s.b.Html, s.b.Head, s.b.Body)
	}
	s.feed("<title>")
	s.has("html head title", "", "#(!a html(head(title)))")
	s.feed("</title></head>")
	s.has("html", "", "#(!a html(head(title)))")
	s.feed("<p><b><a><i>x</p>")
	s.has("html body", "b i", `#(!a html(head(title) body(p(b(a(i("x")))))))`)
	s.feed("</b>")
	s.has("html body", "i", `#(!a html(head(title) body(p(b(a(i("x")))))))`)
	s.feed("<div>")
	s.has("html body div", "i", `#(!a html(head(title) body(p(b(a(i("x")))) div)))`)
	s.feed("<br>")
	s.has("html body div i", "", `#(!a html(head(title) body(p(b(a(i("x")))) div(i(br)))))`)
	s.feed("</div><table><td>")
	s.has("html body table tbody tr td", "", `#(!a html(head(title) body(p(b(a(i("x")))) div(i(br)) table(tbody(tr(td))))))`)
	s.b.Finish()
	event := s.b.Step(s.t)
	s.has("", "", `#(!a html(head(title) body(p(b(a(i("x")))) div(i(br)) table(tbody(tr(td))))))`)
	if event.Kind != treebuild.Finished || len(event.Records) != 0 || !s.b.Done || !s.b.Ended {
		t.Error("at the end there is", event, s.b)
	}
	if n, _ := s.t.Node(s.b.Body); n.Name != "body" {
		t.Error("Body is an element", n.Name)
	}
}

func TestReopen(t *testing.T) {
	s := newSite(t)
	s.feed("<p><b 1><i>x</p>")
	// A copy has the attributes that its element has by now, and none of its children.
	if _, e := s.t.SetAttr(s.b.Reopen[0], "2", "y"); e != api.OK {
		t.Fatal("SetAttr returns the error", e)
	}
	s.feed("z<br>")
	s.has("html body b i", "", `#(html(head body(p(b(1= 2=y i("x"))) b(1= 2=y i("z" br)))))`)
	s.feed("<button><u><p>")
	s.has("html body b i button u p", "", `#(html(head body(p(b(1= 2=y i("x"))) b(1= 2=y i("z" br button(u(p)))))))`)
	s.feed("</button>")
	s.has("html body b i", "", `#(html(head body(p(b(1= 2=y i("x"))) b(1= 2=y i("z" br button(u(p)))))))`)
}

// A barrier that is closed lets nothing be opened again, not even what waits for this already.
func TestBarriersEmptyReopen(t *testing.T) {
	s := newSite(t)
	s.feed("<button><p><b>x</p>")
	s.has("html body button", "b", `#(html(head body(button(p(b("x"))))))`)
	s.feed("</button>")
	s.has("html body", "", `#(html(head body(button(p(b("x"))))))`)
	for _, name := range []string{"caption", "td", "th"} {
		s := newSite(t)
		s.feed("<table><" + name + "><b>x</" + name + ">")
		if len(s.b.Reopen) != 0 {
			t.Errorf("after the end of a %s the elements to be opened again are %s", name, names(s.t, s.b.Reopen))
		}
	}
	for _, text := range []string{"<caption>", "<tbody>", "<tr>", "<td>"} {
		s := newSite(t)
		s.feed("<p><b>x</p><table>")
		s.has("html body table", "b", `#(html(head body(p(b("x")) table)))`)
		s.feed(text)
		if len(s.b.Reopen) != 0 {
			t.Errorf("after %s the elements to be opened again are %s", text, names(s.t, s.b.Reopen))
		}
	}
	s = newSite(t)
	s.feed("<p><b>x</p><td><tr><caption></td></table></body></html>")
	s.has("html body", "b", `#(html(head body(p(b("x")))))`)
	s.feed("<table> </tr></td></p>")
	s.has("html body table", "b", `#(html(head body(p(b("x")) p table)))`)
	s.feed("</table>")
	s.has("html body", "", `#(html(head body(p(b("x")) p table)))`)
}

// described writes events with their kinds and nodes.
func described(t *tree.Tree, events []treebuild.Event) string {
	kinds := []string{"", "wait", "built", "script", "sheet", "link", "finished"}
	var words []string
	for _, event := range events {
		word := kinds[event.Kind]
		if event.Node != 0 {
			word += ":" + look(t, event.Node)
		}
		words = append(words, word)
	}
	return strings.Join(words, " ")
}

func TestEvents(t *testing.T) {
	for _, c := range []struct{ text, want string }{
		{"<p>x</p>", "built built built"},
		{"<!doctype a><!--b--> </x>", "built built built built"},
		{"<script>a</script>", `built built script:script("a")`},
		{"<style>a</style>", `built built sheet:style("a")`},
		{"<link a=1>", "link:link(a=1)"},
		{"<title></title><meta></link>", "built built built built"},
		{"<body><script a=1></script><style></style><link>", "built built script:script(a=1) built sheet:style link:link"},
		{"<div><script>a</script></div>", `built built built script:script("a") built`},
		{"<body></script></style>", "built built built"},
		{"</script></style>", "built built"},
		{"<table><link><style></style>", "built link:link built sheet:style"},
		{"<p><b></p><link>", "built built built link:link"},
		{"<textarea><script></textarea>", "built built built"},
	} {
		s := newSite(t)
		events := s.feed(c.text)
		if got := described(s.t, events); got != c.want {
			t.Errorf("the events of %q are %s, not %s", c.text, got, c.want)
		}
	}
}

func TestStep(t *testing.T) {
	var b treebuild.Builder
	x := tree.New(api.Salt{})
	kinds := func(want ...int) {
		t.Helper()
		for _, kind := range want {
			if event := b.Step(x); event.Kind != kind {
				t.Errorf("Step has the kind %d, not %d", event.Kind, kind)
			}
		}
	}
	kinds(treebuild.Wait, treebuild.Wait)
	b.Feed("a<p>b<script>")
	kinds(treebuild.Built, treebuild.Built, treebuild.Built, treebuild.Built, treebuild.Wait)
	b.Feed("c</script>d")
	kinds(treebuild.Built, treebuild.Script, treebuild.Wait, treebuild.Wait)
	b.Feed("</p><i>e")
	kinds(treebuild.Built, treebuild.Built, treebuild.Built, treebuild.Wait)
	b.Finish()
	if b.Done || !b.Ended {
		t.Error("after Finish, Ended and Done are", b.Ended, b.Done)
	}
	b.Finish()
	b.Feed("<p>nothing")
	kinds(treebuild.Built)
	b.Finish()
	kinds(treebuild.Finished, treebuild.Finished)
	b.Feed("<p>nothing")
	b.Finish()
	kinds(treebuild.Finished, treebuild.Finished)
	if got, want := look(x, x.Root), `#(html(head body("a" p("b" script("c") "d") i("e"))))`; got != want {
		t.Errorf("the tree is %s, not %s", got, want)
	}
}

// Only the step at the end of the document makes what the document does not have, and only the first one.
func TestFinishedRecords(t *testing.T) {
	for s, want := range map[string]int{"": 3, "<!--a-->": 3, "<html>": 2, "<title></title>": 1, "<p>": 0} {
		var b treebuild.Builder
		x := tree.New(api.Salt{})
		b.Feed(s)
		b.Finish()
		event := b.Step(x)
		for event.Kind != treebuild.Finished {
			event = b.Step(x)
		}
		if len(event.Records) != want {
			t.Errorf("at the end of %q there are %d records, not %d", s, len(event.Records), want)
		}
		if again := b.Step(x); again.Kind != treebuild.Finished || len(again.Records) != 0 {
			t.Errorf("after the end of %q there is %v", s, again)
		}
	}
}

func TestFeedCountsBytes(t *testing.T) {
	var b treebuild.Builder
	b.Feed("aé")
	b.Feed("")
	b.Feed("<b")
	if b.Size != 5 {
		t.Error("Size is", b.Size, "not 5")
	}
	b.Finish()
	b.Feed("xyz")
	if b.Size != 5 {
		t.Error("after Finish, Size is", b.Size, "not 5")
	}
}

func TestSaltsDoNotMatter(t *testing.T) {
	next := random()
	for range 300 {
		s := randomDocument(next, 30)
		x := treebuild.Build(s, salts[0])
		for _, salt := range salts[1:] {
			y := treebuild.Build(s, salt)
			if !tree.Same(x, x.Root, y, y.Root) || y.Nodes.Salt != salt {
				t.Errorf("with the salt %v, Build(%q) is %s, not %s", salt, s, look(y, y.Root), look(x, x.Root))
			}
		}
	}
}

// frame returns what is wrong with the html, head and body of a document: "" if there is one of each.
func frame(t *tree.Tree) string {
	var elements []api.Handle
	for _, kid := range t.Kids(t.Root) {
		switch n, _ := t.Node(kid); n.Kind {
		case tree.Element:
			elements = append(elements, kid)
		case tree.Comment:
		default:
			return "the document has a child that is neither an element nor a comment"
		}
	}
	if names(t, elements) != "html" {
		return "the document has the elements " + names(t, elements)
	}
	kids := slices.DeleteFunc(t.Kids(elements[0]), func(h api.Handle) bool {
		n, _ := t.Node(h)
		return n.Kind == tree.Comment
	})
	if names(t, kids) != "head body" {
		return "html has the children " + names(t, kids)
	}
	return ""
}

func TestFrame(t *testing.T) {
	next := random()
	for range 5000 {
		s := randomDocument(next, 20)
		x := treebuild.Build(s, api.Salt{})
		if fault := frame(x); fault != "" {
			t.Errorf("in the tree of %q, %s", s, fault)
		}
		if !x.Valid() {
			t.Errorf("the tree of %q is not valid", s)
		}
	}
}

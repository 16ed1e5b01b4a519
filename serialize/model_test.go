package serialize_test

import (
	"slices"
	"strings"
	"testing"

	"knapsack/api"
	"knapsack/serialize"
	"knapsack/tree"
)

// random returns a function whose results are those of a fixed sequence, each reduced to less than its argument.
func random() func(below int) int {
	state := uint64(1)
	return func(below int) int {
		state = state*6364136223846793005 + 1442695040888963407
		return int(state>>33) % below
	}
}

// in reports whether a name is in a list of the document.
func in(name, list string) bool { return slices.Contains(strings.Fields(list), name) }

// tag is the start tag of an element.
func (x thing) tag() string {
	s := "<" + x.name
	for _, a := range x.attrs {
		s += " " + a.Name + "=\"" + strings.NewReplacer("&", "&amp;", `"`, "&quot;", "\r", "&#13;").Replace(a.Value) + "\""
	}
	return s + ">"
}

// outer and inner are the markup of a thing with that parent, by the words of the document.
func (x thing) outer(parent string) string {
	switch {
	case x.kind == tree.Comment:
		return "<!--" + x.data + "-->"
	case x.kind == tree.Text && in(parent, "script style"):
		return x.data
	case x.kind == tree.Text:
		return strings.NewReplacer("&", "&amp;", "<", "&lt;", ">", "&gt;", "\r", "&#13;").Replace(x.data)
	case in(x.name, "area base br col hr img input link meta"):
		return x.tag()
	}
	return x.tag() + x.inner() + "</" + x.name + ">"
}

func (x thing) inner() string {
	var parts []string
	for _, kid := range x.kids {
		parts = append(parts, kid.outer(x.name))
	}
	return strings.Join(parts, "")
}

// lines is the outline of a thing, line by line.
func (x thing) lines() []string {
	line := x.tag()
	switch x.kind {
	case tree.Comment:
		line = x.outer("")
	case tree.Text:
		line = `"` + strings.NewReplacer("&", "&amp;", `"`, "&quot;", "\r", "&#13;").Replace(x.data) + `"`
	}
	list := []string{strings.Join(strings.Split(line, "\n"), "&#10;")}
	for _, kid := range x.kids {
		for _, line := range kid.lines() {
			list = append(list, "  "+line)
		}
	}
	return list
}

// randomData returns a short string of what has a meaning in markup.
func randomData(next func(below int) int) string {
	parts := []string{"a", " ", "\n", "\r", "\t", "&", "<", ">", `"`, "'", "-->", "--", "&lt;", "&#10;", "&amp", "</script>", "<p>", "</div>", "é", "\uFFFD", "\x00"}
	s := ""
	for range next(5) {
		s += parts[next(len(parts))]
	}
	return s
}

// randomAttrs returns a few attributes with different names.
func randomAttrs(next func(below int) int) []api.Attr {
	var attrs []api.Attr
	for _, name := range []string{"id", "class", "=", "=a", `"`, "'b'", "<", "c<d", "&lt;", "é", "\x00"} {
		if next(6) == 0 {
			attrs = append(attrs, api.Attr{Name: name, Value: randomData(next)})
		}
	}
	return attrs
}

// randomThing returns a thing with at most so many levels below it.
func randomThing(next func(below int) int, levels int) thing {
	names := strings.Fields("p div span b script style title textarea br hr img table td html x<y")
	switch next(4) {
	case 0:
		return text(randomData(next))
	case 1:
		return comment(randomData(next))
	}
	x := element(names[next(len(names))])
	x.attrs = randomAttrs(next)
	for levels > 0 && next(4) > 0 {
		x.kids = append(x.kids, randomThing(next, levels-1))
	}
	return x
}

func TestAnyTreeFollowsModel(t *testing.T) {
	next := random()
	for range 1500 {
		from := randomThing(next, 5)
		marks(t, from, from.outer("div"), from.inner(), strings.Join(from.lines(), "\n")+"\n")
		want := ""
		if from.kind == tree.Element {
			want = from.tag()
		}
		same(t, "Tag", serialize.Tag(tree.Node{Kind: from.kind, Name: from.name, Attrs: from.attrs, Data: from.data}), want)
	}
}

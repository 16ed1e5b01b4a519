package selector_test

import (
	"math"
	"slices"
	"strings"
	"testing"

	"knapsack/api"
	"knapsack/selector"
	"knapsack/tree"
)

// sample has an html, head and body without ids.
const sample = `<div id=d class="x  y"><p id=p1 class=x>a</p>b<!--c--><p id=p2 lang=en-us title="x y z"></p><ul id=u class=" y
z"><li id=l1>1<li id=l2 title=""><b id=b1>2</b><li id=l3 class=X lang=EN>3<b id=b2></b></ul></div><p id=p3 class=xy title=x>`

// P11.1: types, ids, classes and attributes.
func TestMatchAttributes(t *testing.T) {
	for _, salt := range salts {
		x := newSite(t, salt, sample)
		for s, want := range map[string]string{
			"p": "p1 p2 p3", "P": "p1 p2 p3", "html": "html", "*": "html head body d p1 p2 u l1 l2 b1 l3 b2 p3", "i": "", "p, ul": "p1 p2 u p3", "p, P, *#p1": "p1 p2 p3",
			"#d": "d", "p#d": "", "#p1, #p3": "p1 p3", "#D": "", "#d#d": "d", "#d#u": "",
			".x": "d p1", ".y": "d u", ".x.y": "d", "p.x": "p1", ".X": "l3", ".z": "u", ".xy": "p3",
			"[class]": "d p1 u l3 p3", "[title]": "p2 l2 p3", "[href]": "", "[CLASS]": "d p1 u l3 p3", "[lang][title]": "p2",
			"[class=x]": "p1", "[class='x  y']": "d", "[class='x y']": "", "[title='']": "l2", "[lang=EN]": "l3", "[lang=en]": "",
			"[title~=x]": "p2 p3", "[title~=y]": "p2", "[title~='x y']": "", "[title~='']": "", "[class~=z]": "u", "[href~=x]": "",
			"[title^=x]": "p2 p3", "[title^='x ']": "p2", "[title^='x y z']": "p2", "[title^='x y z ']": "", "[title^='']": "", "[lang^=en]": "p2", "[href^=x]": "",
		} {
			x.finds(s, want)
		}
	}
}

// P11.1: positions among siblings, in which texts and comments do not count.
func TestMatchPositions(t *testing.T) {
	x := newSite(t, api.Salt{}, sample)
	for s, want := range map[string]string{
		"p:first-child": "p1", "p:last-child": "p3", ":first-child": "html head d p1 l1 b1 b2", ":last-child": "html body u b1 l3 b2 p3", "b:first-child:last-child": "b1 b2",
		"li:nth-child(1)": "l1", "li:nth-child(2)": "l2", "li:nth-child(3)": "l3", "li:nth-child(4)": "", "li:nth-child(0)": "", "li:nth-child(-1)": "", "ul:nth-child(3)": "u", "p:nth-child(2)": "p2 p3",
		"li:nth-child(odd)": "l1 l3", "li:nth-child(even)": "l2", "li:nth-child(n)": "l1 l2 l3", "li:nth-child(n+2)": "l2 l3", "li:nth-child(-n+2)": "l1 l2", "li:nth-child(-n)": "", "li:nth-child(-n+3)": "l1 l2 l3",
		"li:nth-child(3n)": "l3", "li:nth-child(3n-1)": "l2", "li:nth-child(3n-2)": "l1", "li:nth-child(2n+2)": "l2", "li:nth-child(2n-7)": "l1 l3", "li:nth-child(5n-99)": "l1", "li:nth-child(-2n+3)": "l1 l3", "li:nth-child(-2n+2)": "l2",
		"li:nth-child(0n+2)": "l2", "li:nth-child(999999n+3)": "l3", "li:nth-child(-999999n+3)": "l3", "li:nth-child(n-999999)": "l1 l2 l3", "html:nth-child(1)": "html", "html:nth-child(2)": "",
		":empty": "head p2 b2 p3", "p:empty": "p2 p3", "li:not(:empty)": "l1 l2 l3",
	} {
		x.finds(s, want)
	}
}

// P11.1: the numbers of Nth may be any.
func TestAnyNth(t *testing.T) {
	x := newSite(t, api.Salt{}, "<ul><li id=1><li id=2><li id=3></ul>")
	for _, c := range []struct {
		a, b int
		want string
	}{
		{1, math.MinInt, "1 2 3"}, {2, math.MinInt, "2"}, {2, math.MinInt + 1, "1 3"}, {math.MaxInt, math.MinInt, ""}, {math.MaxInt, math.MinInt + 1, ""},
		{math.MaxInt, math.MinInt + 2, "1"}, {math.MaxInt, math.MinInt + 4, "3"}, {math.MaxInt, math.MinInt + 5, ""}, {math.MaxInt, -math.MaxInt + 1, "1"}, {math.MaxInt, 2, "2"}, {math.MaxInt, 0, ""},
		{-1, math.MaxInt, "1 2 3"}, {-2, math.MaxInt, "1 3"}, {-2, math.MaxInt - 1, "2"}, {math.MinInt, math.MaxInt, ""}, {math.MinInt, 3, "3"}, {math.MinInt, math.MinInt, ""}, {math.MinInt, math.MinInt + 2, ""},
		{-math.MaxInt, math.MaxInt, ""}, {1 - math.MaxInt, math.MaxInt, "1"}, {2 - math.MaxInt, math.MaxInt, "2"}, {0, math.MaxInt, ""}, {0, math.MinInt, ""}, {0, 1, "1"}, {1, math.MaxInt, ""}, {-1, math.MinInt, ""},
	} {
		list := list(one(part(0, "li", nth(c.a, c.b))))
		x.findsParsed(list, selector.Format(list), c.want)
	}
}

// P11.1: what makes an element empty or not.
func TestMatchEmpty(t *testing.T) {
	x := newSite(t, api.Salt{}, "<p id=p>")
	p := x.at("p")
	add := func(kind int, data string) api.Handle {
		h, _ := x.t.Make(kind, "i", data, nil)
		x.t.Insert(p, h, 0)
		return h
	}
	x.finds("p:empty", "p")
	add(tree.Comment, "a")
	add(tree.Text, "")
	add(tree.Comment, "")
	x.finds("p:empty", "p")
	x.finds("p:not(:empty)", "")
	text := add(tree.Text, " ")
	x.finds("p:empty", "")
	x.finds("p:not(:empty)", "p")
	x.t.Replace(text, 0, 1, "")
	x.finds("p:empty", "p")
	inner := add(tree.Element, "")
	x.finds(":empty", "head i")
	x.t.Remove(inner)
	x.finds("p:empty", "p")
}

// P11.1: the state of the document.
func TestMatchState(t *testing.T) {
	x := newSite(t, api.Salt{Base: 5, Stride: 2}, sample)
	for _, s := range []string{":focus", ":hover", ":checked"} {
		x.finds(s, "")
		x.finds("li:not("+s+")", "l1 l2 l3")
	}
	x.state = selector.State{Focus: x.at("l2"), Hover: x.at("b1"), Checked: []api.Handle{x.at("p3"), x.at("l1"), x.at("p3"), 0, -1}}
	x.finds(":focus", "l2")
	x.finds(":hover", "html body d u l2 b1")
	x.finds(":checked", "l1 p3")
	x.finds("li:not(:focus)", "l1 l3")
	x.finds("li:focus:hover > b:hover", "b1")
	x.finds(":checked ~ :focus", "l2")
	// A text may be hovered, but no text has a focus that counts.
	text := x.t.Kids(x.at("l1"))[0]
	x.state = selector.State{Focus: text, Hover: text, Checked: []api.Handle{text, x.t.Root}}
	x.finds(":focus", "")
	x.finds(":hover", "html body d u l1")
	x.finds(":checked", "")
	x.state = selector.State{Focus: 1 << 40, Hover: 1 << 40, Checked: []api.Handle{1 << 40}}
	x.finds(":focus, :hover, :checked", "")
	x.state = selector.State{Hover: x.t.Root}
	x.finds(":hover", "")
}

// P11.1: combinators.
func TestMatchJoins(t *testing.T) {
	for _, salt := range salts {
		x := newSite(t, salt, sample)
		for s, want := range map[string]string{
			"div p": "p1 p2", "body p": "p1 p2 p3", "html b": "b1 b2", "* html": "", "b b": "", "div": "d", "div div": "", "ul li b": "b1 b2", "li ul b": "", "div * b": "b1 b2", "div ul * b": "b1 b2", "div ul * * b": "",
			"div > p": "p1 p2", "body > p": "p3", "div > b": "", "html > body > div > ul > li > b": "b1 b2", "* > html": "", "html > *": "head body", "ul > li:first-child": "l1",
			"p + p": "p2", "p + ul": "u", "div + p": "p3", "p + div": "", "li + li": "l2 l3", "li + li + li": "l3", "head + body": "body", "* + html": "",
			"p ~ p": "p2", "p ~ ul": "u", "ul ~ p": "", "li ~ li": "l2 l3", "li ~ li ~ li": "l3", "li ~ li ~ li ~ li": "", "#p1 ~ ul": "u", "#p1 + ul": "",
			"head ~ body b": "b1 b2", "p ~ ul b": "b1 b2", "p + ul b": "b1 b2", "#p1 + ul b": "", "#p1 ~ ul > li + li b": "b1 b2", "#l1 + li > b": "b1", "#l1 ~ li > b": "b1 b2", "#l2 + li b, #l2 b": "b1 b2",
			"p b, ul b": "b1 b2", "b ~ li, #l2 ~ li, #l1 ~ li": "l2 l3", "b > b, p > b, li > b": "b1 b2",
			"div:not(.x) p": "", "div.x > p:not(.x)": "p2", "body div + p": "p3", "div li:not(:first-child) b": "b1 b2",
		} {
			x.finds(s, want)
		}
	}
}

// P11.1: a nearer partner that leads nowhere does not hide a farther one.
func TestFartherPartners(t *testing.T) {
	x := newSite(t, api.Salt{}, "<div class=a><div><div class=b><div class=b><p id=p></div></div></div></div><h1></h1><h2></h2><h3></h3><h2></h2><h3 id=h></h3>")
	for s, want := range map[string]string{
		".a > div > .b p": "p", ".a > .b p": "", "div > .b .b p": "p", ".a div > .b > p": "p", ".a > div .b p": "p", "body > .a > div > .b > .b > p": "p", "body > div > .b p": "",
		"h1 + h2 ~ h3": "h3 h", "h1 + h2 + h3 ~ h2 + h3": "h", "h3 + h2 ~ h3": "h", "h1 + h3 ~ h3": "", "h2 + h3 ~ h3": "h", "h2 ~ h3 ~ h2 ~ h3": "h", "h3 ~ h3 ~ h3": "",
		"body > h1 + h2 ~ h3": "h3 h", "html h1 ~ h2 + #h": "h",
	} {
		x.finds(s, want)
	}
}

// P11.1: a negation holds if the type is another one, or a test does not hold.
func TestMatchNot(t *testing.T) {
	x := newSite(t, api.Salt{}, sample)
	for s, want := range map[string]string{
		":not(*)": "", "p:not(*)": "", "p:not(p)": "", "p:not(li)": "p1 p2 p3", "p:not(P)": "", "p:not(.x)": "p2 p3", "p:not(p.x)": "p2 p3", "p:not(li.x)": "p1 p2 p3", "p:not([title])": "p1",
		"p:not([title][lang])": "p1 p3", "p:not([title]):not([class])": "", "p:not(.x):not([lang])": "p3", "li:not(:first-child)": "l2 l3", "li:not(:nth-child(odd))": "l2", ":not([id])": "html head body", "li:not(:empty:first-child)": "l1 l2 l3",
	} {
		x.finds(s, want)
	}
	// These are no results of Parse.
	for _, c := range []struct {
		test selector.Test
		want string
	}{
		{not("", not("p")), "p1 p2 p3"},
		{not("p", not("", called(selector.Class, "x"))), "p1"},
		{not("", not("", not("", called(selector.Class, "x")))), "p2 p3"},
		{not("", called(99, "a")), "p1 p2 p3"},
		{not("", selector.Test{}), "p1 p2 p3"},
		{not("", not("", called(0, "p"))), ""},
		{called(0, "p1"), ""}, {called(-1, "p1"), ""}, {called(15, "p1"), ""},
		{called(selector.Id, ""), ""}, {called(selector.Class, ""), ""}, {called(selector.Class, "x y"), ""}, {called(selector.Exists, ""), ""},
		// Fields that the kind does not have mean nothing.
		{selector.Test{Kind: selector.Id, Name: "p1", Value: "a", A: 1, B: 1, Not: []selector.Test{not("")}}, "p1"},
	} {
		x.findsParsed(list(one(part(0, "p", c.test))), showTests([]selector.Test{c.test}), c.want)
	}
}

// P11.1: selectors that no text has.
func TestMatchOthers(t *testing.T) {
	x := newSite(t, api.Salt{}, sample)
	for _, c := range []struct {
		s    selector.Selector
		want string
	}{
		{one(), ""},
		{one(part(0, "div"), part(0, "p")), ""},
		{one(part(0, "div"), part(5, "p")), ""},
		{one(part(0, "div"), part(-1, "p")), ""},
		{one(part(0, "div"), part(9, ""), part(1, "p")), ""},
		// With the first part nothing is joined.
		{one(part(3, "p")), "p1 p2 p3"},
		{one(part(9, "ul"), part(2, "li")), "l1 l2 l3"},
		// Names are compared as they are.
		{one(part(0, "P")), ""},
		{one(part(0, "*")), ""},
		{one(part(0, "", called(selector.Exists, "CLASS"))), ""},
		{one(part(0, "", compared(selector.Prefix, "lang", "e\xFF"))), ""},
	} {
		x.findsParsed(list(c.s), show(list(c.s)), c.want)
	}
	x.findsParsed(nil, "no selector", "")
	x.findsParsed(list(one(), one(part(0, "ul")), one()), "a list with empty ones", "u")
}

// P11.1: nodes that are no elements, nodes without a parent, and handles that name no node.
func TestOtherNodes(t *testing.T) {
	x := newSite(t, api.Salt{}, sample)
	all := parse(t, "*, :not(b), :first-child, :empty")
	text := x.t.Kids(x.at("l1"))[0]
	comment, _ := x.t.Make(tree.Comment, "", "", nil)
	for _, h := range []api.Handle{0, -1, math.MinInt, math.MaxInt, 1 << 40, x.t.Root, text, comment} {
		for _, s := range all {
			if selector.Match(x.t, h, s, x.state) {
				t.Errorf("the node %d matches %s", h, selector.Format(list(s)))
			}
		}
	}
	if selector.Closest(x.t, text, all, x.state) != x.at("l1") || selector.Closest(x.t, text, parse(t, "div"), x.state) != x.at("d") || selector.Closest(x.t, comment, all, x.state) != 0 || selector.Closest(x.t, x.t.Root, all, x.state) != 0 {
		t.Error("Closest of a node that is no element is wrong")
	}
	for _, h := range []api.Handle{0, -1, math.MinInt, 1 << 40, text, comment} {
		if got := selector.Query(x.t, h, all, x.state); len(got) != 0 {
			t.Errorf("Query of %d returns %v", h, got)
		}
	}
	// An element without a parent has no siblings, and its descendants none outside of it.
	alone, _ := x.t.Copy(x.at("u"), true)
	for s, want := range map[string]bool{"ul": true, ":first-child": true, ":last-child": true, ":nth-child(1)": true, ":nth-child(2)": false, "p ~ ul": false, "p + ul": false, "div ul": false, "* > ul": false} {
		if selector.Match(x.t, alone, parse(t, s)[0], x.state) != want {
			t.Errorf("%s matches an element without a parent: %v", s, !want)
		}
	}
	if got := x.ids(selector.Query(x.t, alone, parse(t, "ul > li"), x.state)); got != "l1 l2 l3" {
		t.Errorf("in a detached tree, %q is found", got)
	}
	if got := selector.Query(x.t, alone, parse(t, "ul"), x.state); len(got) != 0 {
		t.Errorf("the root of the query is found: %v", got)
	}
}

// P11.1, P11.3: Query returns descendants of its root only, each once, in document order, but partners may be outside.
func TestQuery(t *testing.T) {
	x := newSite(t, api.Salt{Base: 9, Stride: 4}, sample)
	// The handles are not in document order.
	x.t.Insert(x.at("d"), x.at("p2"), x.at("p1"))
	for _, c := range []struct{ root, s, want string }{
		{"d", "*", "p2 p1 u l1 l2 b1 l3 b2"}, {"d", "div", ""}, {"d", "div p", "p2 p1"}, {"d", "body p", "p2 p1"}, {"d", "p + p, p, p ~ p, .x", "p2 p1"}, {"d", "b, p", "p2 p1 b1 b2"},
		{"u", "body > div li", "l1 l2 l3"}, {"u", "p ~ ul > li + li", "l2 l3"}, {"u", "p", ""}, {"l1", "*", ""}, {"b1", "*", ""}, {"l2", "li b", "b1"},
	} {
		root := x.at(c.root)
		list := parse(t, c.s)
		if got := x.ids(selector.Query(x.t, root, list, x.state)); got != c.want {
			t.Errorf("Query of %s within %s is %q, not %q", c.s, c.root, got, c.want)
		}
		for h := range x.t.Walk(x.t.Root) {
			found := slices.Contains(selector.Query(x.t, root, list, x.state), h)
			if found != (h != root && x.t.Contains(root, h) && x.matchesOne(h, list)) {
				t.Errorf("Query of %s within %s returns the node %d: %v", c.s, c.root, h, found)
			}
		}
	}
}

// P11.1: the nearest one counts, not the order of the selectors.
func TestClosest(t *testing.T) {
	x := newSite(t, api.Salt{}, sample)
	for _, c := range []struct{ from, s, want string }{
		{"b1", "b", "b1"}, {"b1", "li", "l2"}, {"b1", "div, ul, li", "l2"}, {"b1", "p ~ ul, html", "u"}, {"b1", "*", "b1"}, {"b1", "div > *", "u"}, {"b1", "html", "html"}, {"b1", "p", ""}, {"b1", "li:first-child", ""}, {"l3", "b", ""}, {"b1", "p b, ul b", "b1"}, {"b1", "p b, b ~ li, p li, div li", "l2"},
	} {
		got := ""
		if h := selector.Closest(x.t, x.at(c.from), parse(t, c.s), x.state); h != 0 {
			got = x.ids([]api.Handle{h})
		}
		if got != c.want {
			t.Errorf("Closest of %s from %s is %q, not %q", c.s, c.from, got, c.want)
		}
	}
}

// P11.1 with R1: there may be no tree, or one without nodes.
func TestNoTree(t *testing.T) {
	all := parse(t, "*, a b, a ~ b:nth-child(1), :not(b), :hover")
	state := selector.State{Focus: 1, Hover: 1, Checked: []api.Handle{1}}
	for _, x := range []*tree.Tree{nil, {}, {Root: 1}, tree.New(api.Salt{})} {
		for _, h := range []api.Handle{-1, 0, 1, 2} {
			if selector.Match(x, h, all[0], state) || len(selector.Query(x, h, all, state)) > 0 || selector.Closest(x, h, all, state) != 0 {
				t.Errorf("something matches in %v", x)
			}
		}
	}
}

// P11.1 with R3: what is passed is neither changed nor kept.
func TestArgumentsStay(t *testing.T) {
	x := newSite(t, api.Salt{}, sample)
	before := x.t.Nodes.Clone()
	checked := []api.Handle{x.at("l2"), x.at("p1"), 77}
	x.state.Checked = checked[:2]
	list := parse(t, "li:checked, div > p:checked, b:not(:nth-child(2n+1).x):first-child")
	shown := show(list)
	found := selector.Query(x.t, x.t.Root, list, x.state)
	if got := x.ids(found); got != "p1 l2 b1 b2" {
		t.Errorf("%q is found", got)
	}
	found = append(found, 0)
	clear(found)
	selector.Closest(x.t, x.at("b1"), list, x.state)
	selector.Match(x.t, x.at("b1"), list[2], x.state)
	selector.Specificity(list[2])
	selector.Same(list[1], list[2])
	selector.Format(list)
	if show(list) != shown || !slices.Equal(checked, []api.Handle{x.at("l2"), x.at("p1"), 77}) {
		t.Error("arguments are changed")
	}
	for h, n := range before.All() {
		if now, _ := x.t.Node(h); now.Parent != n.Parent || now.First != n.First || now.Next != n.Next || !slices.Equal(now.Attrs, n.Attrs) || now.Data != n.Data {
			t.Errorf("the node %d is changed", h)
		}
	}
	x.finds("li:checked", "l2")
}

// deep returns the markup of elements within each other.
func deep(levels int) string {
	return strings.Repeat("<i class=a>", levels) + "x"
}

// P11.1 with R1: if each way to match leads to many more, it does not take much longer.
func TestManyWays(t *testing.T) {
	x := newSite(t, api.Salt{}, deep(100)+"<b id=b></b>"+strings.Repeat("</i>", 100)+strings.Repeat("<u class=a></u>", 1000)+"<s id=s></s>")
	for _, c := range []struct{ s, want string }{
		{"z" + strings.Repeat(" .a", 50) + " b", ""},
		{strings.Repeat(".a ", 50) + "b", "b"},
		{strings.Repeat(".a ", 101) + "b", ""},
		{"z" + strings.Repeat(" .a > .a", 25) + " b", ""},
		{"i:first-child > i" + strings.Repeat(" .a > .a", 25) + " b", "b"},
		{"z" + strings.Repeat(" ~ .a", 100) + " ~ s", ""},
		{strings.Repeat(".a ~ ", 127) + "s", "s"},
		{"z" + strings.Repeat(" ~ .a + .a", 60) + " ~ s", ""},
		{"z" + strings.Repeat(" ~ .a:nth-child(2n+1)", 100) + " ~ s", ""},
		{"z" + strings.Repeat(" * ~ .a", 60) + " ~ s", ""},
		{"html" + strings.Repeat(" ~ .a ~ .a", 60) + " ~ s", ""},
	} {
		x.finds(c.s, c.want)
	}
}

// P11.1, P11.3: many siblings, and many selectors.
func TestManySiblings(t *testing.T) {
	const count = 5000
	x := newSite(t, api.Salt{}, "<ul>"+strings.Repeat("<li>", count)+"</ul>")
	for s, want := range map[string]int{
		"li:nth-child(2n+1)": count / 2, "li ~ li": count - 1, "z ~ li": 0, "li:nth-child(3n) ~ li:nth-child(2n)": count/2 - 1, ":last-child ~ li": 0, "li:first-child ~ li:last-child": 1,
		"z" + strings.Repeat(" ~ li", 50): 0, strings.Repeat("z ~ li:first-child, ", 300) + "li:not(:last-child)": count - 1,
	} {
		if got := selector.Query(x.t, x.t.Root, parse(t, s), x.state); len(got) != want {
			t.Errorf("%.100s matches %d elements, not %d", s, len(got), want)
		}
	}
}

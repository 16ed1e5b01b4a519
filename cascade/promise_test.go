package cascade_test

import (
	"math"
	"slices"
	"strings"
	"testing"

	"knapsack/api"
	"knapsack/cascade"
	"knapsack/selector"
	"knapsack/style"
	"knapsack/tree"
)

// matchesAny reports whether an element or one of its ancestors matches a rule.
func matchesAny(t *tree.Tree, h api.Handle, rule style.Rule, state selector.State) bool {
	return selector.Closest(t, h, rule.Selectors, state) != 0
}

// without returns sheets without the rules that match neither an element nor one of its ancestors.
func without(t *tree.Tree, h api.Handle, sheets []style.Sheet, state selector.State) []style.Sheet {
	var list []style.Sheet
	for _, sheet := range sheets {
		rules := slices.DeleteFunc(slices.Clone(sheet.Rules), func(r style.Rule) bool { return !matchesAny(t, h, r, state) })
		for i := range rules {
			rules[i].Order = i
		}
		list = append(list, style.Sheet{Origin: sheet.Origin, Rules: rules})
	}
	return list
}

// P13.2: rules that match neither an element nor its ancestors do not change its style, wherever they are.
func TestOtherRulesDoNotMatter(t *testing.T) {
	next := random()
	left := 0
	for run := range 1500 {
		x := randomTree(next, api.Salt{})
		sheets, state := randomSheets(next, next(3) == 0), randomState(next, x.nodes)
		for _, e := range cascade.Compute(x.t, sheets, state).List {
			fewer := without(x.t, e.Node, sheets, state)
			if got, ok := cascade.Compute(x.t, fewer, state).Get(e.Node); !ok || got != e.Style {
				t.Fatalf("run %d: the style of %d is\n%+v, not\n%+v, without rules that do not match it in\n%s", run, e.Node, got, e.Style, show(sheets))
			}
			if got, want := cascade.Matching(x.t, e.Node, fewer, state), cascade.Matching(x.t, e.Node, sheets, state); !slices.Equal(got, want) {
				t.Fatalf("run %d: Matching of %d is %v, not %v", run, e.Node, got, want)
			}
			for i := range sheets {
				left += len(sheets[i].Rules) - len(fewer[i].Rules)
			}
		}
	}
	if left < 10000 {
		t.Errorf("only %d rules were left out", left)
	}
}

// P13.2: what happens to other elements does not change a style, as long as no selector refers to it.
func TestOtherElementsDoNotMatter(t *testing.T) {
	next := random()
	for run := range 1000 {
		x := randomTree(next, api.Salt{})
		sheets := []style.Sheet{style.Default(), author("a{color:red} .x{font-size:2em} #i .y{left:1em} b>b{display:block!important} ul *{line-height:2}")}
		before := cascade.Compute(x.t, sheets, selector.State{})
		changed := pick(next, x.nodes...)
		switch next(4) {
		case 0:
			x.t.Remove(changed)
		case 1:
			x.t.SetAttr(changed, "style", randomDeclarations(next))
		case 2:
			x.t.SetAttr(changed, "class", "x")
		case 3:
			x.t.Insert(changed, pick(next, x.nodes...), 0)
		}
		for _, e := range cascade.Compute(x.t, sheets, selector.State{}).List {
			// A node that was moved has other ancestors.
			if s, ok := before.Get(e.Node); ok && s != e.Style && !x.t.Contains(changed, e.Node) {
				t.Fatalf("run %d: the style of %d is\n%+v, not\n%+v", run, e.Node, e.Style, s)
			}
		}
	}
}

// P13.3: an important declaration is stronger than every normal one, however strong the selector of that is.
func TestImportantIsStronger(t *testing.T) {
	x, at := build(t, api.Salt{}, `<p id=a class=x>1<p id=b class=x style="left:9px">2<p id=c class=x style="left:9px!important">3`)
	selectors := []string{"*", "p", ".x", "p.x", "p[id]", "body p.x", "p:not(#no)", "#a,#b,#c", "#a,p,#b,#c", "p.x:not(#no):not(#no)"}
	for _, weak := range selectors {
		for _, strong := range selectors {
			for _, parse := range []func(s string) style.Sheet{author, agent, other} {
				for _, parseOther := range []func(s string) style.Sheet{author, agent, other} {
					important, normal := parse(weak+"{left:1px!important}"), parseOther(strong+"{left:2px}")
					both := parse(weak + "{left:1px!important}" + strong + "{left:2px}" + weak + "{left:3px;color:red}")
					for _, sheets := range [][]style.Sheet{{important, normal}, {normal, important}, {both}, {both, normal}, {normal, both}} {
						styles := cascade.Compute(x, sheets, selector.State{})
						for id, want := range map[string]int{"a": 1, "b": 1, "c": 9} {
							if id == "c" && important.Origin == style.Agent {
								want = 1
							}
							if got, _ := styles.Get(at(id)); got.Left != px(want) {
								t.Fatalf("left of %s is %v, not %d, with\n%s", id, got.Left, want, show(sheets))
							}
						}
					}
				}
			}
		}
	}
}

// P13.3: of two equal rules the later one counts, in one sheet or in two.
func TestLaterIsStronger(t *testing.T) {
	next := random()
	equal := 0
	for range 3000 {
		x := randomTree(next, api.Salt{})
		s, mark := randomSelector(next), pick(next, "", "!important")
		first, second := s+"{left:1px"+mark+"}", s+"{left:2px"+mark+"}"
		between := randomSelector(next) + "{color:red;width:4px!important}"
		for _, sheets := range [][]style.Sheet{{author(first + between + second)}, {author(first), author(between + second)}, {agent(first + second)}, {agent(first), author(between), agent(second)}, {author(first), other(second)}, {author(s + "{left:1px" + mark + ";left:2px" + mark + "}")}} {
			for _, h := range x.nodes {
				list := slices.DeleteFunc(cascade.Matching(x.t, h, sheets, selector.State{}), func(d style.Decl) bool {
					return d.Name != "left" || d.Value.Kind != style.Pixels || d.Value.Num%1000 != 0
				})
				a := slices.IndexFunc(list, func(d style.Decl) bool { return d.Value.Num == 1000 })
				b := slices.IndexFunc(list, func(d style.Decl) bool { return d.Value.Num == 2000 })
				if a >= 0 != (b >= 0) || a > b {
					t.Fatalf("Matching is %v, with\n%s", list, show(sheets))
				}
				if b >= 0 {
					equal++
				}
			}
		}
	}
	if equal < 3000 {
		t.Errorf("only %d elements matched", equal)
	}
}

// P13.1: arguments are left as they are, and results are new memory.
func TestMemory(t *testing.T) {
	next := random()
	for run := range 300 {
		x := randomTree(next, api.Salt{})
		seed := next(1 << 20)
		sheets, state := randomSheets(seeded(seed), true), randomState(seeded(seed), x.nodes)
		for i := range sheets {
			for k := range sheets[i].Rules {
				// The spare capacity of a list is its owner's.
				decls := append(sheets[i].Rules[k].Decls, style.Decl{Name: "spare"})
				sheets[i].Rules[k].Decls = decls[:len(decls)-1]
			}
		}
		same := func(what string) {
			t.Helper()
			for i, sheet := range randomSheets(seeded(seed), true) {
				for k, rule := range sheet.Rules {
					now := sheets[i].Rules[k]
					if spare := now.Decls[:len(now.Decls)+1]; now.Order != rule.Order || !slices.Equal(now.Decls, rule.Decls) || spare[len(spare)-1].Name != "spare" || !slices.EqualFunc(now.Selectors, rule.Selectors, selector.Same) {
						t.Fatalf("run %d: %s changed a rule", run, what)
					}
				}
			}
			if again := randomState(seeded(seed), x.nodes); !slices.Equal(again.Checked, state.Checked) {
				t.Fatalf("run %d: %s changed the state", run, what)
			}
		}
		for _, h := range x.nodes {
			first, second := cascade.Matching(x.t, h, sheets, state), cascade.Matching(x.t, h, sheets, state)
			for i := range first {
				first[i] = decl("color", hex("#123456"))
			}
			same("Matching")
			if !slices.Equal(second, modelMatching(x.t, h, sheets, state)) {
				t.Fatalf("run %d: two results share memory", run)
			}
			cascade.Apply(second[:len(second)/2], odd())
			if !slices.Equal(second, modelMatching(x.t, h, sheets, state)) {
				t.Fatalf("run %d: Apply changed the declarations", run)
			}
		}
		first, second := cascade.Compute(x.t, sheets, state), cascade.Compute(x.t, sheets, state)
		clear(first.List)
		same("Compute")
		if !slices.Equal(second.List, modelCompute(x.t, sheets, state)) {
			t.Fatalf("run %d: two results share memory", run)
		}
	}
}

// P13.1: sheets and states that were written by hand end, too.
func TestAnySheets(t *testing.T) {
	x, at := build(t, api.Salt{}, "<p id=p>1")
	p, _ := selector.Parse("p")
	top := []style.Decl{decl("top", num(style.Pixels, 1000))}
	strange := []selector.Selector{{}, {Parts: []selector.Part{{Join: 9, Type: "p", Tests: []selector.Test{{Kind: 99}, {Kind: -1}}}}}, {Parts: []selector.Part{{}, {Join: -1}, {Join: 5}}}, {Parts: []selector.Part{{Tests: []selector.Test{{Kind: selector.Nth, A: math.MinInt, B: math.MaxInt}}}}}}
	sheets := []style.Sheet{{Origin: math.MinInt, Rules: []style.Rule{{Order: -3}, {Decls: top}, {Selectors: p}, {Selectors: strange, Decls: top, Order: 7}, {Selectors: p, Decls: []style.Decl{{}, decl("?", word("?")), top[0]}, Order: -7}}}}
	state := selector.State{Focus: -1, Hover: math.MaxInt, Checked: []api.Handle{0, -7, math.MinInt}}
	if got := len(cascade.Matching(x, at("p"), sheets, state)); got != 3 {
		t.Errorf("Matching returns %d declarations", got)
	}
	if got, ok := cascade.Compute(x, sheets, state).Get(at("p")); !ok || got != with(plain(cascade.Initial()), "top", px(1)) {
		t.Errorf("Compute returns %+v, %v", got, ok)
	}
}

// P13.1: many elements and many rules.
func TestManyElements(t *testing.T) {
	x, at := build(t, api.Salt{Base: 3, Stride: 9}, "<div id=d><b class=c>"+strings.Repeat("<i></i>", 3000)+"<i id=i>")
	sheets := []style.Sheet{style.Default(), author(strings.Repeat("b>i{top:1px}", 100) + "i:nth-child(2n+1){top:2px} i~i{left:3px} div .c i+i:not(:last-child){left:4px}")}
	styles := cascade.Compute(x, sheets, selector.State{})
	if got, ok := styles.Get(at("i")); !ok || got.Top != px(2) || got.Left != px(3) {
		t.Errorf("the last i is at %v, %v", got.Left, got.Top)
	}
	list := styles.List[len(styles.List)-3001:]
	for i, e := range list {
		top, left := px(1+(i+1)%2), px(4)
		switch i {
		case 0:
			left = auto
		case 3000:
			left = px(3)
		}
		if e.Style.Top != top || e.Style.Left != left {
			t.Fatalf("the element %d is at %v, %v", i, e.Style.Left, e.Style.Top)
		}
	}
}

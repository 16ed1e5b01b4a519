package cascade

import (
	"maps"
	"math"
	"slices"

	"knapsack/api"
	"knapsack/selector"
	"knapsack/style"
	"knapsack/tree"
)

// The importance and origin of a declaration, from the weakest.
const (
	agentNormal = iota
	authorNormal
	authorImportant
	agentImportant
)

// source is where declarations that apply to an element come from: a rule, or the attribute style.
type source struct {
	decls       []style.Decl
	agent       bool
	specificity [3]int
}

// weighed is a declaration with its weight, but for its place among those that are equally strong.
type weighed struct {
	decl   style.Decl
	weight [4]int // importance and origin, and the specificity
}

// reach returns, for each element that matches rules, these in their order. find returns the elements that match one of some selectors.
func reach(sheets []style.Sheet, find func(list []selector.Selector) []api.Handle) map[api.Handle][]*source {
	reached := map[api.Handle][]*source{}
	for _, sheet := range sheets {
		for _, rule := range sheet.Rules {
			done := map[api.Handle]bool{}
			grades := graded(rule.Selectors)
			for _, specificity := range slices.SortedFunc(maps.Keys(grades), greaterFirst) {
				from := &source{rule.Decls, sheet.Origin == style.Agent, specificity}
				for _, h := range find(grades[specificity]) {
					if !done[h] {
						done[h] = true
						reached[h] = append(reached[h], from)
					}
				}
			}
		}
	}
	return reached
}

// graded divides selectors by their specificity.
func graded(list []selector.Selector) map[[3]int][]selector.Selector {
	grades := map[[3]int][]selector.Selector{}
	for _, s := range list {
		specificity := selector.Specificity(s)
		grades[specificity] = append(grades[specificity], s)
	}
	return grades
}

// greaterFirst compares two specificities for a descending order.
func greaterFirst(a, b [3]int) int { return slices.Compare(b[:], a[:]) }

// own returns what the attribute style of an element has, if there is one.
func own(t *tree.Tree, h api.Handle) *source {
	value, _ := t.Attr(h, "style")
	return &source{decls: style.Decls(value), specificity: [3]int{math.MaxInt}}
}

// ordered returns the declarations of sources, the weakest first.
func ordered(sources []*source) []style.Decl {
	var list []weighed
	for _, from := range sources {
		for _, d := range from.decls {
			n := from.specificity
			list = append(list, weighed{d, [4]int{rank(from.agent, d.Important), n[0], n[1], n[2]}})
		}
	}
	slices.SortStableFunc(list, func(a, b weighed) int { return slices.Compare(a.weight[:], b.weight[:]) })
	decls := make([]style.Decl, len(list))
	for i, w := range list {
		decls[i] = w.decl
	}
	return decls
}

// rank returns the importance and origin of a declaration.
func rank(agent, important bool) int {
	switch {
	case agent && important:
		return agentImportant
	case important:
		return authorImportant
	case agent:
		return agentNormal
	}
	return authorNormal
}

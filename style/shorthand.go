package style

import (
	"slices"

	"knapsack/api"
	"knapsack/text"
)

// shorthands has a line for each shorthand: its name and its longhands.
const shorthands = `border-width: border-top-width border-right-width border-bottom-width border-left-width
flex: flex-grow flex-shrink flex-basis
margin: margin-top margin-right margin-bottom margin-left
padding: padding-top padding-right padding-bottom padding-left`

// expand returns the declarations of longhands that a property with a value stands for, none if there is no such property or the value is not valid.
func expand(property, s string) []Decl {
	list, ok := lookUp(shorthands, property)
	if !ok {
		return single(property, s)
	}
	targets := text.Fields(list)
	var decls []Decl
	for i, v := range divide(targets, s) {
		decls = append(decls, Decl{Name: targets[i], Value: v})
	}
	return decls
}

// single is expand for a longhand.
func single(property, s string) []Decl {
	v, e := ParseValue(property, s)
	if e != api.OK {
		return nil
	}
	return []Decl{{Name: property, Value: v}}
}

// divide returns the values for the longhands of a shorthand, none if its value is not valid.
func divide(targets []string, s string) []Value {
	if v, ok := valueOf(everywhere, s); ok {
		return slices.Repeat([]Value{v}, len(targets))
	}
	if targets[0] == "flex-grow" {
		return flexible(s)
	}
	syntax, _ := lookUp(longhands, targets[0])
	return sides(syntax, text.Fields(s))
}

// sides returns the values for top, right, bottom and left, each of which is one of a longhand's.
func sides(syntax string, parts []string) []Value {
	if len(parts) == 0 || len(parts) > 4 {
		return nil
	}
	var values []Value
	for _, part := range parts {
		v, ok := valueOf(syntax, part)
		if !ok {
			return nil
		}
		values = append(values, v)
	}
	for len(values) < 4 {
		// That of the opposite side, or of the top.
		values = append(values, values[max(len(values)-2, 0)])
	}
	return values
}

// flexible returns the values for flex-grow, flex-shrink and flex-basis.
func flexible(s string) []Value {
	switch s {
	case "none":
		s = "0 0 auto"
	case "auto":
		s = "1 1 auto"
	}
	parts := text.Fields(s)
	// optional takes the next part, if it is a value of a longhand.
	optional := func(property string, otherwise Value) Value {
		if len(parts) == 0 {
			return otherwise
		}
		syntax, _ := lookUp(longhands, property)
		v, ok := valueOf(syntax, parts[0])
		if !ok {
			return otherwise
		}
		parts = parts[1:]
		return v
	}
	grow := optional("flex-grow", Value{})
	shrink := optional("flex-shrink", Value{Kind: Number, Num: 1000})
	basis := optional("flex-basis", Value{Kind: Pixels})
	if grow.Kind == 0 || len(parts) > 0 {
		return nil
	}
	return []Value{grow, shrink, basis}
}

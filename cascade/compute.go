package cascade

import (
	"slices"

	"knapsack/api"
	"knapsack/style"
)

const (
	initialFont = 16        // pixels
	initialText = "#000000" // the color
)

// sides are the sides of a box in their order.
var sides = [4]string{"top", "right", "bottom", "left"}

// counting returns the values of the declared properties: of each the last one that is valid.
func counting(decls []style.Decl) map[string]style.Value {
	values := map[string]style.Value{}
	for _, d := range slices.Backward(decls) {
		if _, known := values[d.Name]; !known && isValid(d) {
			values[d.Name] = d.Value
		}
	}
	return values
}

// isValid reports whether the property is known and has that value, which is then what the value's own text is read as.
func isValid(d style.Decl) bool {
	v, e := style.ParseValue(d.Name, style.FormatValue(d.Value))
	return e == api.OK && v == d.Value
}

// isInherited reports whether a property that is not declared has the value of the parent.
func isInherited(property string) bool {
	switch property {
	case "color", "font-size", "line-height", "text-align", "visibility", "white-space":
		return true
	}
	return false
}

// computing is the computation of a style.
type computing struct {
	values map[string]style.Value // of the declared properties
	font   int                    // the font size of the element
}

// chosen returns the value of a property: that of the parent, the initial one, or what compute makes of the declared one.
func chosen[T any](c *computing, property string, inherited, initial T, compute func(v style.Value) T) T {
	v, declared := c.values[property]
	switch {
	case v.Word == "inherit", !declared && isInherited(property):
		return inherited
	case v.Word == "initial", !declared:
		return initial
	}
	return compute(v)
}

// computed returns the style for the values of the declared properties.
func computed(values map[string]style.Value, parent Style) Style {
	c := &computing{values: values}
	// Lengths refer to the font size, and the color of a border to that of the text.
	c.font = chosen(c, "font-size", parent.FontSize, initialFont, func(v style.Value) int { return fontSize(v, parent.FontSize) })
	text := c.color("color", parent.Color, initialText)
	auto, zero := Length{}, Length{Kind: Px}
	z := c.level(parent)
	s := Style{
		Display:     c.keyword("display", parent.Display, Inline),
		Position:    c.keyword("position", parent.Position, Static),
		Left:        c.length("left", parent.Left, auto),
		Top:         c.length("top", parent.Top, auto),
		Width:       c.length("width", parent.Width, auto),
		Height:      c.length("height", parent.Height, auto),
		MinWidth:    c.length("min-width", parent.MinWidth, zero),
		MaxWidth:    c.length("max-width", parent.MaxWidth, auto),
		Margin:      c.lengths("margin-", parent.Margin),
		Padding:     c.lengths("padding-", parent.Padding),
		Border:      c.borders(parent.Border),
		BorderColor: c.color("border-color", parent.BorderColor, text),
		Color:       text,
		Background:  c.color("background", parent.Background, ""),
		FontSize:    c.font,
		LineHeight:  chosen(c, "line-height", parent.LineHeight, c.lineHeight(style.Value{}), c.lineHeight),
		TextAlign:   c.keyword("text-align", parent.TextAlign, Left),
		WhiteSpace:  c.keyword("white-space", parent.WhiteSpace, Normal),
		VAlign:      c.keyword("vertical-align", parent.VAlign, Top),
		Direction:   c.keyword("flex-direction", parent.Direction, Row),
		Wrap:        chosen(c, "flex-wrap", parent.Wrap, false, func(v style.Value) bool { return v.Word == "wrap" }),
		Grow:        chosen(c, "flex-grow", parent.Grow, 0, thousandths),
		Shrink:      chosen(c, "flex-shrink", parent.Shrink, 1000, thousandths),
		Basis:       c.length("flex-basis", parent.Basis, auto),
		Order:       chosen(c, "order", parent.Order, 0, integer),
		Z:           z.index,
		ZAuto:       z.auto,
		Overflow:    c.keyword("overflow", parent.Overflow, Visible),
		Visibility:  c.keyword("visibility", parent.Visibility, Visible),
	}
	if s.Position == Absolute {
		s.Display = displayAlone(s.Display)
	}
	return s
}

// keyword, length, lengths, borders and color return the values of properties of these kinds.
func (c *computing) keyword(property string, inherited, initial int) int {
	return chosen(c, property, inherited, initial, func(v style.Value) int { return number(v.Word) })
}

func (c *computing) length(property string, inherited, initial Length) Length {
	return chosen(c, property, inherited, initial, c.lengthOf)
}

func (c *computing) lengths(prefix string, inherited [4]Length) [4]Length {
	var list [4]Length
	for i, side := range sides {
		list[i] = c.length(prefix+side, inherited[i], Length{Kind: Px})
	}
	return list
}

func (c *computing) borders(inherited [4]int) [4]int {
	var list [4]int
	for i, side := range sides {
		list[i] = chosen(c, "border-"+side+"-width", inherited[i], 0, func(v style.Value) int { return c.lengthOf(v).Value })
	}
	return list
}

func (c *computing) color(property, inherited, initial string) string {
	return chosen(c, property, inherited, initial, func(v style.Value) string {
		if v.Kind == style.Keyword { // transparent
			return ""
		}
		return v.Word
	})
}

// level is a value of z-index.
type level struct {
	index int
	auto  bool
}

func (c *computing) level(parent Style) level {
	return chosen(c, "z-index", level{parent.Z, parent.ZAuto}, level{auto: true}, func(v style.Value) level {
		return level{integer(v), v.Kind == style.Keyword}
	})
}

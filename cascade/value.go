package cascade

import (
	"knapsack/api"
	"knapsack/style"
)

const (
	maxFont    = 1000     // pixels
	maxLine    = 10000    // pixels
	maxPercent = 10000000 // hundredths of a percent
)

// number returns the number of a keyword: no word has different ones for different properties.
func number(word string) int {
	switch word {
	case "none":
		return None
	case "block":
		return Block
	case "inline":
		return Inline
	case "inline-block":
		return InlineBlock
	case "flex":
		return Flex
	case "table":
		return Table
	case "table-row":
		return TableRow
	case "table-cell":
		return TableCell
	case "list-item":
		return ListItem
	case "table-row-group":
		return RowGroup
	case "relative":
		return Relative
	case "absolute":
		return Absolute
	case "center":
		return Center
	case "right":
		return Right
	case "nowrap":
		return NoWrap
	case "pre":
		return Pre
	case "middle":
		return Middle
	case "bottom":
		return Bottom
	case "column":
		return Column
	case "hidden":
		return Hidden
	case "scroll":
		return Scroll
	}
	// static, left, normal, top, row, visible
	return 0
}

// displayAlone returns the display of an element that is taken out of what surrounds it.
func displayAlone(display int) int {
	switch display {
	case Inline, InlineBlock, TableRow, TableCell, RowGroup:
		return Block
	}
	return display
}

// fontSize returns the size of a font in pixels.
func fontSize(v style.Value, parent int) int {
	size := v.Num / 1000
	switch v.Kind {
	case style.Em:
		size = scaled(parent, v.Num, 1000)
	case style.Percent:
		size = scaled(parent, v.Num, 100000)
	}
	return limited(size, 1, maxFont)
}

// lineHeight returns the height of a line in pixels: that of normal, if the value is no number.
func (c *computing) lineHeight(v style.Value) int {
	height := scaled(c.font, 5, 4)
	switch v.Kind {
	case style.Number:
		height = scaled(c.font, v.Num, 1000)
	case style.Percent:
		height = scaled(c.font, v.Num, 100000)
	case style.Pixels, style.Em:
		height = c.lengthOf(v).Value
	}
	return limited(height, 0, maxLine)
}

// lengthOf returns a computed length: Auto, if the value is no number.
func (c *computing) lengthOf(v style.Value) Length {
	switch v.Kind {
	case style.Pixels:
		return Length{Kind: Px, Value: limited(v.Num/1000, -api.MaxSize, api.MaxSize)}
	case style.Em:
		return Length{Kind: Px, Value: limited(scaled(c.font, v.Num, 1000), -api.MaxSize, api.MaxSize)}
	case style.Percent:
		return Length{Kind: Percent, Value: limited(v.Num/10, -maxPercent, maxPercent)}
	}
	return Length{}
}

// thousandths and integer return the number of a value.
func thousandths(v style.Value) int { return v.Num }

func integer(v style.Value) int { return v.Num / 1000 }

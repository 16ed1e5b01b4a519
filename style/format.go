package style

import (
	"strconv"
	"strings"

	"knapsack/selector"
)

// Format returns the canonical text of a sheet.
func Format(s Sheet) string {
	var b strings.Builder
	for _, rule := range s.Rules {
		b.WriteString(selector.Format(rule.Selectors) + " {")
		for _, d := range rule.Decls {
			b.WriteString(" " + d.Name + ": " + FormatValue(d.Value))
			if d.Important {
				b.WriteString(" !important")
			}
			b.WriteString(";")
		}
		b.WriteString(" }\n")
	}
	return b.String()
}

// FormatValue returns the canonical text of a value.
func FormatValue(v Value) string {
	switch v.Kind {
	case Keyword, Color:
		return v.Word
	case Pixels:
		return fraction(v.Num) + "px"
	case Em:
		return fraction(v.Num) + "em"
	case Percent:
		return fraction(v.Num) + "%"
	}
	return fraction(v.Num)
}

// fraction returns the text of a number of thousandths.
func fraction(num int) string {
	sign := ""
	size := uint64(num)
	if num < 0 {
		// The least int has no opposite among the ints.
		sign, size = "-", -size
	}
	whole := sign + strconv.FormatUint(size/1000, 10)
	if size%1000 == 0 {
		return whole
	}
	digits := strconv.FormatUint(1000+size%1000, 10)[1:]
	return whole + "." + strings.TrimRight(digits, "0")
}

package cascade_test

import (
	"math"
	"reflect"
	"slices"
	"strconv"
	"strings"
	"testing"

	"knapsack/api"
	"knapsack/cascade"
	"knapsack/style"
)

func px(n int) cascade.Length { return cascade.Length{Kind: cascade.Px, Value: n} }

func percent(n int) cascade.Length { return cascade.Length{Kind: cascade.Percent, Value: n} }

var auto = cascade.Length{}

func word(s string) style.Value { return style.Value{Kind: style.Keyword, Word: s} }

func num(kind, thousandths int) style.Value { return style.Value{Kind: kind, Num: thousandths} }

func hex(s string) style.Value { return style.Value{Kind: style.Color, Word: s} }

func decl(property string, v style.Value) style.Decl { return style.Decl{Name: property, Value: v} }

// odd returns a style no field of which is initial, or like another one.
func odd() cascade.Style {
	return cascade.Style{
		Display: cascade.Flex, Position: cascade.Relative, Left: px(1), Top: percent(-2), Width: px(3), Height: percent(4), MinWidth: percent(5), MaxWidth: px(6),
		Margin: [4]cascade.Length{px(-7), auto, percent(9), px(10)}, Padding: [4]cascade.Length{px(11), percent(12), px(13), px(14)},
		Border: [4]int{15, 16, 17, 18}, BorderColor: "#191919", Color: "#202020", Background: "#212121", FontSize: 22, LineHeight: 23,
		TextAlign: cascade.Center, WhiteSpace: cascade.Pre, VAlign: cascade.Bottom, Direction: cascade.Column, Wrap: true, Grow: 24, Shrink: 25, Basis: percent(26),
		Order: -27, Z: 28, Overflow: cascade.Scroll, Visibility: cascade.Hidden,
	}
}

// plain returns the style of an element without declarations.
func plain(parent cascade.Style) cascade.Style {
	none := [4]cascade.Length{px(0), px(0), px(0), px(0)}
	return cascade.Style{
		Display: cascade.Inline, MinWidth: px(0), Margin: none, Padding: none, BorderColor: parent.Color, Color: parent.Color, FontSize: parent.FontSize, LineHeight: parent.LineHeight,
		TextAlign: parent.TextAlign, WhiteSpace: parent.WhiteSpace, Shrink: 1000, ZAuto: true, Visibility: parent.Visibility,
	}
}

// fields has the fields of each property: names, and indices within them.
var fields = map[string][]string{
	"background": {"Background"}, "border-color": {"BorderColor"}, "color": {"Color"}, "display": {"Display"}, "flex-basis": {"Basis"}, "flex-direction": {"Direction"},
	"border-top-width": {"Border 0"}, "border-right-width": {"Border 1"}, "border-bottom-width": {"Border 2"}, "border-left-width": {"Border 3"},
	"flex-grow": {"Grow"}, "flex-shrink": {"Shrink"}, "flex-wrap": {"Wrap"}, "font-size": {"FontSize"}, "height": {"Height"}, "left": {"Left"}, "line-height": {"LineHeight"},
	"margin-top": {"Margin 0"}, "margin-right": {"Margin 1"}, "margin-bottom": {"Margin 2"}, "margin-left": {"Margin 3"}, "max-width": {"MaxWidth"}, "min-width": {"MinWidth"},
	"order": {"Order"}, "overflow": {"Overflow"}, "padding-top": {"Padding 0"}, "padding-right": {"Padding 1"}, "padding-bottom": {"Padding 2"}, "padding-left": {"Padding 3"},
	"position": {"Position"}, "text-align": {"TextAlign"}, "top": {"Top"}, "vertical-align": {"VAlign"}, "visibility": {"Visibility"}, "white-space": {"WhiteSpace"}, "width": {"Width"},
	"z-index": {"Z", "ZAuto"},
}

// field returns a field of a style by its name and index.
func field(s *cascade.Style, name string) reflect.Value {
	name, index, indexed := strings.Cut(name, " ")
	v := reflect.ValueOf(s).Elem().FieldByName(name)
	if indexed {
		i, _ := strconv.Atoi(index)
		v = v.Index(i)
	}
	return v
}

// with returns a style with some fields set to values.
func with(s cascade.Style, property string, values ...any) cascade.Style {
	for i, name := range fields[property] {
		field(&s, name).Set(reflect.ValueOf(values[i]))
	}
	return s
}

// applies checks the style that declarations make, within a parent.
func applies(t *testing.T, decls string, parent, want cascade.Style) {
	t.Helper()
	if got := cascade.Apply(style.Decls(decls), parent); got != want {
		t.Errorf("%s is\n%+v, not\n%+v", decls, got, want)
	}
}

// P13.1: the style of the document, and of elements without declarations.
func TestInitial(t *testing.T) {
	want := cascade.Style{
		Display: cascade.Block, MinWidth: px(0), Margin: [4]cascade.Length{px(0), px(0), px(0), px(0)}, Padding: [4]cascade.Length{px(0), px(0), px(0), px(0)},
		BorderColor: "#000000", Color: "#000000", FontSize: 16, LineHeight: 20, Shrink: 1000, ZAuto: true,
	}
	if got := cascade.Initial(); got != want {
		t.Errorf("Initial is\n%+v, not\n%+v", got, want)
	}
	inline := want
	inline.Display = cascade.Inline
	applies(t, "", want, inline)
	applies(t, "", odd(), plain(odd()))
	applies(t, "", cascade.Style{}, plain(cascade.Style{}))
}

// P13.1: inherit takes what the parent has, initial what the property has at first.
func TestInheritAndInitial(t *testing.T) {
	first := plain(cascade.Initial())
	for _, property := range style.Properties() {
		for _, before := range []string{"", property + ":0; ", property + ": initial; " + property + ": auto; "} {
			want := plain(odd())
			parent := odd()
			for _, name := range fields[property] {
				field(&want, name).Set(field(&parent, name))
			}
			applies(t, before+property+": inherit", odd(), want)
		}
		for _, before := range []string{"", property + ": inherit; ", property + ": 7px; " + property + ": red; "} {
			want := plain(odd())
			for _, name := range fields[property] {
				field(&want, name).Set(field(&first, name))
			}
			switch property {
			case "color":
				want.BorderColor = "#000000"
			case "border-color":
				want.BorderColor = odd().Color
			case "line-height":
				want.LineHeight = 27
			}
			applies(t, before+property+": initial", odd(), want)
		}
	}
	applies(t, "z-index: inherit", cascade.Style{Z: 5, ZAuto: true}, with(plain(cascade.Style{}), "z-index", 5, true))
	applies(t, "border-color: inherit; color: red", odd(), with(with(plain(odd()), "color", "#ff0000"), "border-color", "#191919"))
	applies(t, "border-color: initial; color: red", odd(), with(with(plain(odd()), "color", "#ff0000"), "border-color", "#ff0000"))
	applies(t, "line-height: initial; font-size: 30px", odd(), with(with(plain(odd()), "font-size", 30), "line-height", 37))
	applies(t, "line-height: inherit; font-size: 30px", odd(), with(with(plain(odd()), "font-size", 30), "line-height", 23))
}

// P13.1: keywords.
func TestKeywords(t *testing.T) {
	for property, values := range map[string]map[string]int{
		"display": {
			"none": cascade.None, "block": cascade.Block, "inline": cascade.Inline, "inline-block": cascade.InlineBlock, "flex": cascade.Flex, "table": cascade.Table,
			"table-row": cascade.TableRow, "table-cell": cascade.TableCell, "list-item": cascade.ListItem, "table-row-group": cascade.RowGroup,
		},
		"position":       {"static": cascade.Static, "relative": cascade.Relative},
		"text-align":     {"left": cascade.Left, "center": cascade.Center, "right": cascade.Right},
		"white-space":    {"normal": cascade.Normal, "nowrap": cascade.NoWrap, "pre": cascade.Pre},
		"vertical-align": {"top": cascade.Top, "middle": cascade.Middle, "bottom": cascade.Bottom},
		"flex-direction": {"row": cascade.Row, "column": cascade.Column},
		"overflow":       {"visible": cascade.Visible, "hidden": cascade.Hidden, "scroll": cascade.Scroll},
		"visibility":     {"visible": cascade.Visible, "hidden": cascade.Hidden},
	} {
		for s, number := range values {
			applies(t, property+":"+s, odd(), with(plain(odd()), property, number))
		}
	}
	for s, wrap := range map[string]bool{"wrap": true, "nowrap": false} {
		applies(t, "flex-wrap:"+s, odd(), with(plain(odd()), "flex-wrap", wrap))
	}
	numbers := []int{
		cascade.None, cascade.Block, cascade.Inline, cascade.InlineBlock, cascade.Flex, cascade.Table, cascade.TableRow, cascade.TableCell, cascade.ListItem, cascade.RowGroup,
		cascade.Static, cascade.Relative, cascade.Absolute, cascade.Left, cascade.Center, cascade.Right, cascade.Normal, cascade.NoWrap, cascade.Pre, cascade.Top, cascade.Middle, cascade.Bottom,
		cascade.Row, cascade.Column, cascade.Visible, cascade.Hidden, cascade.Scroll, cascade.Auto, cascade.Px, cascade.Percent,
	}
	if !slices.Equal(numbers, []int{0, 1, 2, 3, 4, 5, 6, 7, 8, 9, 0, 1, 2, 0, 1, 2, 0, 1, 2, 0, 1, 2, 0, 1, 0, 1, 2, 0, 1, 2}) {
		t.Errorf("the keywords are numbered %v", numbers)
	}
}

// P13.1: what an absolute position makes of the display.
func TestAbsolute(t *testing.T) {
	for s, want := range map[string]int{
		"none": cascade.None, "block": cascade.Block, "inline": cascade.Block, "inline-block": cascade.Block, "flex": cascade.Flex, "table": cascade.Table, "table-row": cascade.Block,
		"table-cell": cascade.Block, "list-item": cascade.ListItem, "table-row-group": cascade.Block, "initial": cascade.Block, "inherit": cascade.Flex, "unknown": cascade.Block,
	} {
		applies(t, "position: absolute; display:"+s, odd(), with(with(plain(odd()), "position", cascade.Absolute), "display", want))
		applies(t, "display:"+s+"; position: inherit", with(odd(), "position", cascade.Absolute), with(with(plain(odd()), "position", cascade.Absolute), "display", want))
	}
	applies(t, "display: inherit; position: absolute", with(odd(), "display", cascade.TableCell), with(with(plain(odd()), "position", cascade.Absolute), "display", cascade.Block))
	applies(t, "position: absolute; position: static", odd(), plain(odd()))
	// An element within an absolute one is not absolute, and a display that none of the keywords has stays.
	applies(t, "", with(odd(), "position", cascade.Absolute), plain(odd()))
	applies(t, "display: inherit; position: absolute", with(odd(), "display", 77), with(with(plain(odd()), "position", cascade.Absolute), "display", 77))
}

// P13.1: the properties that are lengths, and what else they accept.
func TestLengths(t *testing.T) {
	values := map[string]cascade.Length{
		"0": px(0), "7px": px(7), "1.999px": px(1), "0.999px": px(0), "1048576px": px(1 << 20), "1048575.999px": px(1<<20 - 1),
		"1em": px(22), "2.5em": px(55), "0.1em": px(2), "0.09em": px(1), "0.045em": px(0), "47662.545em": px(1<<20 - 1), "47662.546em": px(1 << 20), "1048576em": px(1 << 20),
		"0%": percent(0), "50%": percent(5000), "12.5%": percent(1250), "0.019%": percent(1), "0.009%": percent(0), "100000%": percent(10000000), "100000.01%": percent(10000000), "1048576%": percent(10000000), "99999.999%": percent(9999999),
	}
	negative := map[string]cascade.Length{
		"-7px": px(-7), "-1.999px": px(-1), "-0.999px": px(0), "-1048576px": px(-1 << 20), "-2.5em": px(-55), "-0.09em": px(-1), "-0.045em": px(0), "-47662.545em": px(1 - 1<<20), "-1048576em": px(-1 << 20),
		"-12.5%": percent(-1250), "-0.019%": percent(-1), "-0.009%": percent(0), "-100000%": percent(-10000000), "-100000.01%": percent(-10000000), "-1048576%": percent(-10000000), "-99999.999%": percent(-9999999),
	}
	for _, property := range style.Properties() {
		s := cascade.Style{}
		if f := field(&s, fields[property][0]); f.Type() != reflect.TypeOf(auto) {
			continue
		}
		for s, want := range values {
			applies(t, property+":"+s, odd(), with(plain(odd()), property, want))
		}
		for s, want := range negative {
			if property == "left" || property == "top" || strings.HasPrefix(property, "margin") {
				applies(t, property+":"+s, odd(), with(plain(odd()), property, want))
			} else {
				applies(t, property+":3px;"+property+":"+s, odd(), with(plain(odd()), property, px(3)))
			}
		}
		switch {
		case property == "max-width":
			applies(t, property+":none", odd(), with(plain(odd()), property, auto))
		case property != "min-width" && !strings.HasPrefix(property, "padding"):
			applies(t, property+":auto", odd(), with(plain(odd()), property, auto))
		}
	}
	for i, property := range []string{"border-top-width", "border-right-width", "border-bottom-width", "border-left-width"} {
		for s, want := range values {
			if !strings.HasSuffix(s, "%") {
				applies(t, property+":"+s, odd(), with(plain(odd()), property, want.Value))
			}
		}
		want := plain(odd())
		want.Border[i] = 4
		applies(t, property+": 4px; "+property+": 50%; "+property+": -1px; "+property+": auto", odd(), want)
	}
}

// P13.1: colors, numbers, and indices.
func TestColorsAndNumbers(t *testing.T) {
	applies(t, "background: #Abc", odd(), with(plain(odd()), "background", "#aabbcc"))
	applies(t, "background: red; background: transparent", odd(), plain(odd()))
	applies(t, "border-color: navy", odd(), with(plain(odd()), "border-color", "#000080"))
	applies(t, "color: #12AB34", odd(), with(with(plain(odd()), "color", "#12ab34"), "border-color", "#12ab34"))
	applies(t, "color: lime; border-color: transparent", odd(), plain(odd()))
	for s, want := range map[string]int{"0": 0, "3": 3, "+3.0": 3, "-3": -3, "1048576": 1 << 20, "-1048576": -1 << 20} {
		applies(t, "order:"+s, odd(), with(plain(odd()), "order", want))
		applies(t, "z-index:"+s, odd(), with(plain(odd()), "z-index", want, false))
		applies(t, "z-index:"+s+"; z-index: auto", odd(), plain(odd()))
		applies(t, "order:"+s+";order: 1.5; order: auto; z-index:"+s+"; z-index: 0.001", odd(), with(with(plain(odd()), "order", want), "z-index", want, false))
	}
	for s, want := range map[string]int{"0": 0, "3": 3000, "2.5": 2500, "0.0019": 1, "1048576": 1 << 20 * 1000} {
		for _, property := range []string{"flex-grow", "flex-shrink"} {
			applies(t, property+":"+s, odd(), with(plain(odd()), property, want))
			applies(t, property+":"+s+";"+property+":-1;"+property+":1px", odd(), with(plain(odd()), property, want))
		}
	}
	applies(t, "flex: none", odd(), with(plain(odd()), "flex-shrink", 0))
	applies(t, "flex: 2 3 10%", odd(), with(with(with(plain(odd()), "flex-grow", 2000), "flex-shrink", 3000), "flex-basis", percent(1000)))
}

// P13.1: font sizes refer to that of the parent, and have limits.
func TestFontSize(t *testing.T) {
	for s, want := range map[string]int{
		"7px": 7, "7.9px": 7, "1px": 1, "0.9px": 1, "0": 1, "1000px": 1000, "1000.9px": 1000, "1001px": 1000, "1048576px": 1000,
		"1em": 22, "2em": 44, "0.5em": 11, "0.99em": 21, "0.04em": 1, "0em": 1, "45.454em": 999, "45.455em": 1000, "46em": 1000, "1048576em": 1000,
		"100%": 22, "99%": 21, "50%": 11, "0.1%": 1, "0%": 1, "4545.454%": 999, "4545.455%": 1000, "1048576%": 1000,
	} {
		applies(t, "font-size:"+s, odd(), with(plain(odd()), "font-size", want))
		applies(t, "line-height: normal; width: 2em; font-size:"+s, odd(), with(with(with(plain(odd()), "font-size", want), "line-height", want*5/4), "width", px(2*want)))
	}
	applies(t, "font-size: 10px; font-size: 2em", odd(), with(plain(odd()), "font-size", 44))
	applies(t, "font-size: 10px; font-size: -1px; font-size: 12; font-size: auto; font-size: normal", odd(), with(plain(odd()), "font-size", 10))
	for size, want := range map[int]int{0: 1, -5: 1, math.MinInt: 1, math.MaxInt: 1000, 1 << 62: 1000, 2000: 1000, 3: 6} {
		parent := with(odd(), "font-size", size)
		applies(t, "font-size: 2em", parent, with(plain(odd()), "font-size", want))
		applies(t, "font-size: 200%", parent, with(plain(odd()), "font-size", want))
		// What is inherited is not computed anew.
		applies(t, "", parent, with(plain(odd()), "font-size", size))
		applies(t, "font-size: inherit", parent, with(plain(odd()), "font-size", size))
	}
}

// P13.1: heights of lines refer to the font size of the element, and have limits.
func TestLineHeight(t *testing.T) {
	for s, want := range map[string]int{
		"normal": 27, "initial": 27, "0": 0, "1": 22, "1.5": 33, "1.23": 27, "0.04": 0, "454.5": 9999, "454.546": 10000, "1048576": 10000,
		"7px": 7, "7.9px": 7, "0.9px": 0, "10000px": 10000, "10001px": 10000, "1048576px": 10000, "1em": 22, "1.5em": 33, "1000em": 10000, "1048576em": 10000,
		"100%": 22, "123%": 27, "0%": 0, "45454.6%": 10000, "45454.5%": 9999, "1048576%": 10000, "inherit": 23,
	} {
		applies(t, "line-height:"+s, odd(), with(plain(odd()), "line-height", want))
	}
	for s, want := range map[string]int{"1.5": 30, "1.5em": 30, "150%": 30, "normal": 25, "inherit": 23, "initial": 25, "8px": 8, "-1": 23, "-1px": 23, "auto": 23} {
		applies(t, "line-height:"+s+"; font-size: 20px", odd(), with(with(plain(odd()), "font-size", 20), "line-height", want))
	}
	for size, want := range map[int]int{0: 0, -5: 0, math.MinInt: 0, math.MaxInt: 10000, 8000: 10000, 7999: 9998, math.MaxInt / 4: 10000} {
		parent := with(odd(), "font-size", size)
		applies(t, "line-height: normal", parent, with(plain(parent), "line-height", want))
		applies(t, "line-height: 1.25", parent, with(plain(parent), "line-height", want))
		applies(t, "line-height: 125%", parent, with(plain(parent), "line-height", want))
		applies(t, "line-height: 1.25em", parent, with(plain(parent), "line-height", want))
	}
	for _, height := range []int{-1, 10001, math.MaxInt, math.MinInt} {
		applies(t, "", with(odd(), "line-height", height), with(plain(odd()), "line-height", height))
		applies(t, "line-height: inherit", with(odd(), "line-height", height), with(plain(odd()), "line-height", height))
	}
}

// P13.1: lengths of an element whose font size only a parent that was written by hand can have.
func TestAnyFontSize(t *testing.T) {
	for size, want := range map[int]int{math.MaxInt: 1 << 20, math.MinInt: -1 << 20, 1 << 40: 1 << 20, -9: -18, 0: 0, 1 << 19: 1 << 20, 1<<19 - 1: 1<<20 - 2, -1 << 19: -1 << 20} {
		parent := with(odd(), "font-size", size)
		applies(t, "left: 2em", parent, with(plain(parent), "left", px(want)))
		applies(t, "left: -2em", parent, with(plain(parent), "left", px(-want)))
		applies(t, "border-top-width: 2em", parent, with(plain(parent), "border-top-width", want))
	}
	for size, want := range map[int]int{math.MaxInt: 1 << 20, math.MinInt: -1 << 20, 1<<20 + 1: 1048, -1: 0} {
		applies(t, "top: 0.001em", with(odd(), "font-size", size), with(plain(with(odd(), "font-size", size)), "top", px(want)))
	}
}

// P13.1: of each property the last declaration counts, as long as its value is valid; what is important or not has been decided before.
func TestLastValidDeclaration(t *testing.T) {
	applies(t, "width: 1px; height: 2px; width: 3px; height: 4px", odd(), with(with(plain(odd()), "width", px(3)), "height", px(4)))
	applies(t, "width: 1px !important; width: 2px", odd(), with(plain(odd()), "width", px(2)))
	applies(t, "width: inherit; width: 2px", odd(), with(plain(odd()), "width", px(2)))
	good := decl("width", num(style.Pixels, 5000))
	for _, property := range []string{"", "Width", " width", "widths", "margin", "flex", "padding", "border-width", "top ", "-", "width: 1px", "\xff"} {
		for _, v := range []style.Value{num(style.Pixels, 1000), word("inherit"), word("initial"), {}} {
			for _, list := range [][]style.Decl{{decl(property, v), good}, {good, decl(property, v)}} {
				if got, want := cascade.Apply(list, odd()), with(plain(odd()), "width", px(5)); got != want {
					t.Errorf("%v is\n%+v, not\n%+v", list, got, want)
				}
			}
		}
	}
}

// P13.1: values that are not valid for their property, although they may be for another one, are as if they were not there.
func TestInvalidValues(t *testing.T) {
	least, most := -(1<<20)*1000, (1<<20)*1000
	always := []style.Value{
		{}, num(0, 1000), num(7, 1000), num(-1, 0), num(style.Keyword, 1), num(style.Color, 0), {Kind: 0, Word: "inherit"}, {Kind: style.Color, Word: "inherit"}, {Kind: style.Pixels, Word: "inherit"},
		{Kind: style.Keyword, Num: 1, Word: "inherit"}, word("Inherit"), word(" inherit"), word("inherit "), word("inherited"), word(""), word("unset"), word("red"), word("#ff0000"), word("1px"), word("0"), word("50%"),
		hex(""), hex("#"), hex("#fff"), hex("#FFFFFF"), hex("ffffff"), hex("#ffffff "), hex("#gggggg"), hex("red"), hex("transparent"), {Kind: style.Color, Word: "#ffffff", Num: 1},
		{Kind: style.Pixels, Num: 1000, Word: "px"}, num(style.Pixels, most+1), num(style.Pixels, math.MaxInt), num(style.Pixels, least-1), num(style.Pixels, math.MinInt), num(style.Em, most+1), num(style.Em, least-1),
		num(style.Percent, most+1), num(style.Percent, math.MinInt), num(style.Number, most+1), num(style.Number, least-1), num(style.Number, math.MaxInt), num(style.Number, math.MinInt),
	}
	some := map[string][]style.Value{
		"color position left":          {num(style.Number, 0), num(style.Number, 1000), word("transparent"), word("wrap"), word("none")},
		"display":                      {num(style.Number, 0), num(style.Pixels, 1000), word("row"), word("auto"), word("table-caption")},
		"width padding-top font-size":  {num(style.Number, 0), num(style.Pixels, -1), num(style.Em, -1), num(style.Percent, -1), hex("#ffffff"), word("none"), word("normal")},
		"border-left-width":            {num(style.Number, 0), num(style.Pixels, -1), num(style.Em, -1), num(style.Percent, 0), num(style.Percent, 1000), word("auto")},
		"order z-index":                {num(style.Number, 1), num(style.Number, -1500), num(style.Pixels, 0), num(style.Em, 0), num(style.Percent, 0), word("none")},
		"flex-grow flex-shrink":        {num(style.Number, -1), num(style.Pixels, 0), num(style.Percent, 0), word("auto"), word("none")},
		"line-height":                  {num(style.Number, -1), num(style.Pixels, -1), num(style.Em, -1), num(style.Percent, -1), word("auto")},
		"min-width padding-left":       {word("auto"), word("none")},
		"max-width":                    {word("auto"), num(style.Pixels, -1)},
		"flex-wrap flex-direction top": {word("scroll"), word("static"), num(style.Number, 0)},
		"visibility":                   {word("scroll"), word("none")},
		"background border-color":      {word("none"), word("auto"), word("black"), num(style.Number, 0)},
	}
	for _, property := range style.Properties() {
		invalid := slices.Clone(always)
		for list, values := range some {
			if slices.Contains(strings.Fields(list), property) {
				invalid = append(invalid, values...)
			}
		}
		for _, v := range invalid {
			before := decl(property, word("inherit"))
			want := cascade.Apply([]style.Decl{before}, odd())
			if got := cascade.Apply([]style.Decl{before, decl(property, v)}, odd()); got != want {
				t.Errorf("%s: %v counts: it is\n%+v, not\n%+v", property, v, got, want)
			}
			if got, want := cascade.Apply([]style.Decl{decl(property, v)}, odd()), plain(odd()); got != want {
				t.Errorf("%s: %v counts alone: it is\n%+v, not\n%+v", property, v, got, want)
			}
		}
	}
}

// P13.1: an element's lengths in pixels.
func TestResolve(t *testing.T) {
	for _, c := range []struct {
		length     cascade.Length
		base, want int
		ok         bool
	}{
		{percent(1250), 80, 10, true}, {percent(10000), 80, 80, true}, {percent(3333), 100, 33, true}, {percent(3333), -100, -33, true}, {percent(-3333), 100, -33, true}, {percent(-3333), -100, 33, true},
		{percent(0), 80, 0, true}, {percent(5000), 0, 0, true}, {percent(1), 9999, 0, true}, {percent(-1), 9999, 0, true}, {percent(1), 10000, 1, true}, {percent(10000000), 1 << 20, 1000 << 20, true},
		{px(7), 80, 7, true}, {px(-7), 0, -7, true}, {px(math.MaxInt), 3, math.MaxInt, true}, {px(math.MinInt), -3, math.MinInt, true},
		{auto, 80, 0, false}, {cascade.Length{Value: 9}, 80, 0, false}, {cascade.Length{Kind: 3, Value: 9}, 80, 0, false}, {cascade.Length{Kind: -1, Value: 9}, 80, 0, false},
		// The product is too great for an int, but the result is not.
		{percent(10000), math.MaxInt, math.MaxInt, true}, {percent(10000), math.MinInt, math.MinInt, true}, {percent(-10000), math.MaxInt, -math.MaxInt, true}, {percent(5000), math.MinInt, math.MinInt / 2, true},
		{percent(math.MaxInt), 10000, math.MaxInt, true}, {percent(math.MinInt), 10000, math.MinInt, true}, {percent(math.MinInt), -5000, 1 << 62, true}, {percent(1 << 62), 5000, 1 << 61, true},
	} {
		if got, ok := cascade.Resolve(c.length, c.base); got != c.want || ok != c.ok {
			t.Errorf("Resolve(%v, %d) is %d, %v, not %d, %v", c.length, c.base, got, ok, c.want, c.ok)
		}
	}
	for _, n := range []int{math.MinInt, -20001, 20001, math.MaxInt} {
		for _, base := range []int{math.MinInt, math.MaxInt} {
			// Nothing is specified for a result that no int is, but that the call returns.
			cascade.Resolve(percent(n), base)
		}
	}
}

// P13.1: the first entry of an element counts.
func TestGet(t *testing.T) {
	styles := cascade.Styles{List: []cascade.Entry{{Node: 7, Style: odd()}, {Node: 3, Style: plain(odd())}, {Node: 3}}}
	for _, c := range []struct {
		h    api.Handle
		want cascade.Style
		ok   bool
	}{{7, odd(), true}, {3, plain(odd()), true}, {0, cascade.Style{}, false}, {-7, cascade.Style{}, false}, {8, cascade.Style{}, false}} {
		if got, ok := styles.Get(c.h); got != c.want || ok != c.ok {
			t.Errorf("Get(%d) is %v, %+v", c.h, ok, got)
		}
	}
	if _, ok := (cascade.Styles{}).Get(1); ok {
		t.Error("no styles have an entry")
	}
}

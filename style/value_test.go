package style_test

import (
	"math"
	"slices"
	"strings"
	"testing"

	"knapsack/api"
	"knapsack/style"
)

func word(s string) style.Value { return style.Value{Kind: style.Keyword, Word: s} }

func num(kind, thousandths int) style.Value { return style.Value{Kind: kind, Num: thousandths} }

func hex(s string) style.Value { return style.Value{Kind: style.Color, Word: s} }

// takes checks the value of a longhand, however it is spelled, also as a declaration, and that its text means the same.
func takes(t *testing.T, property, s string, want style.Value) {
	t.Helper()
	for _, text := range []string{s, strings.ToUpper(s), "\t\n\f\r " + s + " \r\n", style.FormatValue(want)} {
		if got, e := style.ParseValue(property, text); got != want || e != api.OK {
			t.Errorf("ParseValue(%q, %q) is %v, error %d, not %v", property, text, got, e, want)
		}
		list := []style.Decl{{Name: property, Value: want}}
		if got := style.Decls(strings.ToUpper(property) + ":" + text); !slices.Equal(got, list) {
			t.Errorf("Decls(%q:%q) is %v, not %v", property, text, got, list)
		}
		list[0].Important = true
		if got := style.Decls(" " + property + " : " + text + " ! importanT ;"); !slices.Equal(got, list) {
			t.Errorf("Decls(%q:%q, important) is %v, not %v", property, text, got, list)
		}
	}
}

// refuses checks that a value is none of a longhand's, also in a declaration, if it is all of that's value.
func refuses(t *testing.T, property, s string) {
	t.Helper()
	if got, e := style.ParseValue(property, s); e != api.ErrSyntax || got != (style.Value{}) {
		t.Errorf("ParseValue(%q, %q) is %v, error %d, not ErrSyntax", property, s, got, e)
	}
	if got := style.Decls(property + ":" + s); len(got) > 0 && !strings.ContainsAny(s, ";!") {
		t.Errorf("Decls(%q:%q) is %v", property, s, got)
	}
}

// P12.1: the names of the longhands.
func TestProperties(t *testing.T) {
	want := strings.Fields("background border-bottom-width border-color border-left-width border-right-width border-top-width color display flex-basis flex-direction flex-grow flex-shrink flex-wrap font-size height left line-height margin-bottom margin-left margin-right margin-top max-width min-width order overflow padding-bottom padding-left padding-right padding-top position text-align top vertical-align visibility white-space width z-index")
	got := style.Properties()
	if !slices.Equal(got, want) || len(got) != 37 || !slices.IsSorted(got) {
		t.Errorf("Properties is %q, not %q", got, want)
	}
	for _, name := range want {
		takes(t, name, "inherit", word("inherit"))
		takes(t, name, "initial", word("initial"))
		for _, s := range []string{"", " ", "inherit inherit", "initial inherit", "inherited", "inheri", "'inherit'", "inherit;", "<color>", "<length>", "<number+>", "<integer>", "unset", "!important", "inherit !important", "none none", "auto 0", "0 0", "1", "-1", "px", "%", "#", "#12", "\x00", "\xff", "é"} {
			_, e := style.ParseValue(name, s)
			if number := s == "1" || s == "-1"; number && acceptsNumber(name, s) != (e == api.OK) || !number && e != api.ErrSyntax {
				t.Errorf("ParseValue(%q, %q) returns the error %d", name, s, e)
			}
		}
	}
}

// acceptsNumber reports whether a longhand accepts the numbers 1 and -1.
func acceptsNumber(name, s string) bool {
	switch name {
	case "order", "z-index":
		return true
	case "flex-grow", "flex-shrink", "line-height":
		return s == "1"
	}
	return false
}

// P12.1: names that are not those of longhands, as they are written.
func TestOtherProperties(t *testing.T) {
	for _, name := range []string{"", " ", "COLOR", "Color", " color", "color ", "color:", "colors", "colo", "margin", "padding", "border-width", "flex", "border", "bottom", "right", "max-height", "background-color", "z_index", "color: <color>\ncolor", "background: <color> transparent\nborder-bottom-width", "background: <color>", "\n", "inherit", "<color>", "red", "--x", "\xff"} {
		for _, s := range []string{"red", "inherit", "0", "", "?"} {
			if got, e := style.ParseValue(name, s); e != api.ErrNone || got != (style.Value{}) {
				t.Errorf("ParseValue(%q, %q) is %v, error %d, not ErrNone", name, s, got, e)
			}
		}
	}
	for _, name := range []string{"", "border", "bottom", "right", "max-height", "background-color", "col or", "-color", "colors", "--x", "inherit"} {
		declares(t, name+":inherit;top:0;"+name+":0", "top:0px")
	}
}

// P12.1: the keywords of each longhand, and no others.
func TestKeywords(t *testing.T) {
	keywords := map[string]string{
		"background": "transparent", "display": "block flex inline inline-block list-item none table table-cell table-row table-row-group",
		"flex-basis": "auto", "height": "auto", "width": "auto", "flex-direction": "column row", "flex-wrap": "nowrap wrap",
		"left": "auto", "top": "auto", "margin-bottom": "auto", "margin-left": "auto", "margin-right": "auto", "margin-top": "auto",
		"line-height": "normal", "max-width": "none", "overflow": "hidden scroll visible", "position": "absolute relative static", "text-align": "center left right",
		"vertical-align": "bottom middle top", "visibility": "hidden visible", "white-space": "normal nowrap pre", "z-index": "auto",
	}
	all := map[string]bool{}
	for _, list := range keywords {
		for _, s := range strings.Fields(list) {
			all[s] = true
		}
	}
	for _, property := range style.Properties() {
		own := strings.Fields(keywords[property])
		for s := range all {
			if slices.Contains(own, s) {
				takes(t, property, s, word(s))
			} else {
				refuses(t, property, s)
			}
			refuses(t, property, s+" "+s)
			refuses(t, property, s+"x")
			refuses(t, property, "x"+s)
		}
		refuses(t, property, keywords[property]+" ?")
		for _, s := range strings.Fields("unset revert currentcolor grey inline-flex grid contents block-inline thin medium larger content min-content max-content fit-content row-reverse wrap-reverse fixed sticky justify start end baseline collapse pre-wrap pre-line clip") {
			refuses(t, property, s)
		}
	}
}

// P12.1: colors.
func TestColors(t *testing.T) {
	names := map[string]string{"black": "000000", "blue": "0000ff", "gray": "808080", "green": "008000", "maroon": "800000", "navy": "000080", "orange": "ffa500", "purple": "800080", "red": "ff0000", "silver": "c0c0c0", "white": "ffffff", "yellow": "ffff00"}
	accepting := []string{"background", "border-color", "color"}
	for _, property := range accepting {
		for name, digits := range names {
			takes(t, property, name, hex("#"+digits))
			takes(t, property, "#"+digits, hex("#"+digits))
			refuses(t, property, digits)
			refuses(t, property, name+": "+digits)
			refuses(t, property, "#"+name)
		}
		for s, want := range map[string]string{"#abc": "#aabbcc", "#019": "#001199", "#def": "#ddeeff", "#123456": "#123456", "#7890ab": "#7890ab", "#cdef00": "#cdef00", "#fff": "#ffffff", "#000": "#000000"} {
			takes(t, property, s, hex(want))
		}
		takes(t, property, "#aBcDeF", hex("#abcdef"))
		for _, s := range []string{"", "#", "#1", "#12", "#1234", "#12345", "#1234567", "#12345678", "#ggg", "#12g", "#12345g", "#abc;", "# abc", "#ab c", "#abc abc", "##abc", "abc", "0", "1px", "rgb(0,0,0)", "grey", "redd", "re", "none", "auto", "currentcolor", "#ab\xff", "#٠٠٠", "#-12", "#+12"} {
			refuses(t, property, s)
		}
	}
	for _, property := range style.Properties() {
		if !slices.Contains(accepting, property) {
			refuses(t, property, "red")
			refuses(t, property, "#123")
			refuses(t, property, "#123456")
		}
	}
}

// P12.1: how numbers are written, and what they are in thousandths.
func TestNumbers(t *testing.T) {
	for s, want := range map[string]int{
		"0": 0, "1": 1000, "+1": 1000, "-1": -1000, "0000001": 1000, "-0": 0, "+0": 0, "00": 0, "1.5": 1500, "-1.5": -1500, "+1.5": 1500, "1.05": 1050, "1.005": 1005, "0.5": 500, "-0.5": -500,
		"1.0": 1000, "1.000": 1000, "1.0000000000000000000000000000000": 1000, "1.9999": 1999, "-1.9999": -1999, "1.0009": 1000, "0.0009": 0, "-0.0009": 0, "0.001": 1, "-0.001": -1, "12.345678901234567890123456789": 12345,
		"1048576": 1048576000, "-1048576": -1048576000, "1048576.0": 1048576000, "1048576.0009": 1048576000, "-1048576.00099999": -1048576000, "1048575.999": 1048575999, "1048575.9999": 1048575999,
	} {
		takes(t, "top", s+"px", num(style.Pixels, want))
		takes(t, "top", s+"em", num(style.Em, want))
		takes(t, "top", s+"%", num(style.Percent, want))
		if want >= 0 {
			takes(t, "line-height", s, num(style.Number, want))
			takes(t, "flex-grow", s, num(style.Number, want))
			takes(t, "width", s+"px", num(style.Pixels, want))
		} else {
			refuses(t, "line-height", s)
			refuses(t, "flex-grow", s)
			refuses(t, "width", s+"px")
		}
		if want%1000 == 0 {
			takes(t, "order", s, num(style.Number, want))
			takes(t, "z-index", s, num(style.Number, want))
		} else {
			refuses(t, "order", s)
			refuses(t, "z-index", s)
		}
		if want == 0 {
			takes(t, "top", s, num(style.Pixels, 0))
			takes(t, "padding-top", s, num(style.Pixels, 0))
		} else {
			refuses(t, "top", s)
			refuses(t, "padding-top", s)
		}
	}
	for _, s := range []string{
		"", "+", "-", ".", "+.", ".5", "-.5", "1.", "-1.", "1..5", "1.5.5", "+-1", "-+1", "--1", "++1", "- 1", "+ 1", "1 .5", "1. 5", "1e1", "1,5", "00000001", "12345678", "00000000", "1234567.", "0x1", "٣", "1_0", "x1", "1x", "'1'", "(1)",
		"1048576.001", "-1048576.001", "1048577", "-1048577", "9999999", "9999999.999", "99999999999999999999999999999999", "1\x00",
	} {
		for _, property := range []string{"top", "line-height", "flex-grow", "order", "z-index", "width", "font-size"} {
			for _, unit := range []string{"", "px", "em", "%"} {
				refuses(t, property, s+unit)
			}
		}
	}
}

// P12.1: which longhands accept numbers of which kinds, and which of them negative ones.
func TestForms(t *testing.T) {
	const (
		borders  = "border-bottom-width border-left-width border-right-width border-top-width"
		paddings = "padding-bottom padding-left padding-right padding-top"
		margins  = "left top margin-bottom margin-left margin-right margin-top"
		sizes    = "flex-basis height width font-size line-height max-width min-width " + paddings
		factors  = "flex-grow flex-shrink line-height"
		integers = "order z-index"
	)
	for _, property := range style.Properties() {
		for _, c := range []struct {
			s         string
			want      style.Value
			accepting string
		}{
			{"1px", num(style.Pixels, 1000), borders + " " + sizes + " " + margins},
			{"-1px", num(style.Pixels, -1000), margins},
			{"-0.001px", num(style.Pixels, -1), margins},
			{"-0px", num(style.Pixels, 0), borders + " " + sizes + " " + margins},
			{"1.25em", num(style.Em, 1250), borders + " " + sizes + " " + margins},
			{"-1.25em", num(style.Em, -1250), margins},
			{"12.5%", num(style.Percent, 12500), sizes + " " + margins},
			{"-12.5%", num(style.Percent, -12500), margins},
			{"-0.0001%", num(style.Percent, 0), sizes + " " + margins},
			{"2", num(style.Number, 2000), factors + " " + integers},
			{"2.5", num(style.Number, 2500), factors},
			{"-2", num(style.Number, -2000), integers},
			{"-2.5", num(style.Number, -2500), ""},
		} {
			if slices.Contains(strings.Fields(c.accepting), property) {
				takes(t, property, c.s, c.want)
			} else {
				refuses(t, property, c.s)
			}
		}
		// 0 alone is a number, where these are accepted, and otherwise a length.
		switch {
		case slices.Contains(strings.Fields(factors+" "+integers), property):
			takes(t, property, "0", num(style.Number, 0))
			takes(t, property, "-0", num(style.Number, 0))
		case slices.Contains(strings.Fields(borders+" "+sizes+" "+margins), property):
			takes(t, property, "0", num(style.Pixels, 0))
			takes(t, property, "-0.0", num(style.Pixels, 0))
		default:
			refuses(t, property, "0")
		}
		for _, s := range []string{"1 px", "1 %", "1px px", "1px1", "1p", "1pt", "1rem", "1e", "1xem", "1%%", "1px%", "%1", "px1", "1px 1px", "1px,1px", "1px;", "1px!important", "calc(1px)", "1\u00a0px", "1px\v", "\u00851px"} {
			refuses(t, property, s)
		}
	}
}

// P12.1: margin, padding and border-width.
func TestSides(t *testing.T) {
	sides := []string{"top", "right", "bottom", "left"}
	for _, shorthand := range []string{"margin", "padding", "border-width"} {
		begin, end, _ := strings.Cut(shorthand+"-", "-")
		begin += "-"
		end = strings.Repeat("-width", strings.Count(end, "width"))
		four := func(values string) string {
			var list []string
			for i, v := range strings.Fields(values) {
				list = append(list, begin+sides[i]+end+":"+v)
			}
			return strings.Join(list, ";")
		}
		for s, want := range map[string]string{
			"1px": "1px 1px 1px 1px", "1px 2em": "1px 2em 1px 2em", "1px 2em 0": "1px 2em 0px 2em", "1px 2em 0 4.5px": "1px 2em 0px 4.5px",
			" \t0\n\f\r1PX ": "0px 1px 0px 1px", "inherit": "inherit inherit inherit inherit", " INITIAL ": "initial initial initial initial", "0 0 0 0": "0px 0px 0px 0px",
		} {
			declares(t, shorthand+":"+s, four(want))
			declares(t, strings.ToUpper(shorthand)+":"+s+";top:0", four(want)+";top:0px")
			declares(t, shorthand+":"+s+"!important", strings.ReplaceAll(four(want), ";", "!;")+"!")
		}
		for _, s := range []string{"", " ", "0 0 0 0 0", "1px x", "x 1px", "0,0", "1", "0 0 0 1", "1px inherit", "inherit inherit", "initial 0", "none", "red", "0 !importan", "0/0", "1 px", "(0)", "0 '0'"} {
			declares(t, "left:0;"+shorthand+":"+s, "left:0px")
		}
		if got, e := style.ParseValue(shorthand, "0"); e != api.ErrNone || got != (style.Value{}) {
			t.Errorf("ParseValue(%q) returns %v, error %d", shorthand, got, e)
		}
	}
	// Each value must be one of the longhands'.
	declares(t, "margin:-1px auto 50%", "margin-top:-1px;margin-right:auto;margin-bottom:50%;margin-left:auto")
	declares(t, "padding:0 50%", "padding-top:0px;padding-right:50%;padding-bottom:0px;padding-left:50%")
	for _, s := range []string{"padding:-1px", "padding:0 0 0 -1px", "padding:auto", "padding:0 auto", "padding:-5%", "border-width:-1px", "border-width:1px 50%", "border-width:auto", "border-width:0 0 -1em", "margin:normal"} {
		declares(t, s, "")
	}
}

// P12.1: flex.
func TestFlex(t *testing.T) {
	for s, want := range map[string]string{
		"none": "0 0 auto", "auto": "1 1 auto", "1": "1 1 0px", "0": "0 1 0px", "2.5": "2.5 1 0px", "2 3": "2 3 0px", "0 0": "0 0 0px", "1 0": "1 0 0px", "2 3 4px": "2 3 4px", "2 3 0": "2 3 0px", "0 0 0": "0 0 0px",
		"2 4px": "2 1 4px", "2 50%": "2 1 50%", "2 auto": "2 1 auto", "2 3 auto": "2 3 auto", "2 3 50%": "2 3 50%", "2 3 1.5em": "2 3 1.5em", " \t2\n3\f4PX\r": "2 3 4px", "-0 -0 -0": "0 0 0px", "NONE": "0 0 auto", "Auto": "1 1 auto",
		"inherit": "inherit inherit inherit", "initial": "initial initial initial", "+1 +2 +3px": "1 2 3px", "0 0 auto": "0 0 auto",
	} {
		values := strings.Fields(want)
		all := "flex-grow:" + values[0] + ";flex-shrink:" + values[1] + ";flex-basis:" + values[2]
		declares(t, "flex:"+s, all)
		declares(t, "FLEX : "+s+" ! important;top:0", strings.ReplaceAll(all, ";", "!;")+"!;top:0px")
	}
	for _, s := range []string{"", " ", "-1", "1 -1", "1 1 -1px", "1 1 1", "1 2 3 4", "1 1 0 0", "0 0 0 0", "1px", "50%", "auto auto", "none none", "auto 1", "1 none", "1 1 none", "none 1", "4px 1", "1 4px 1", "2 4px 4px", "1 inherit", "1 1 inherit", "inherit 1", "initial initial", "1,1", "1/1", "1 1 x", "x", "1 1 normal", "1px 1 1", "1 1 -5%", "0.5px"} {
		declares(t, "top:0;flex:"+s, "top:0px")
	}
	want := []style.Decl{{Name: "flex-grow", Value: num(style.Number, 1000)}, {Name: "flex-shrink", Value: num(style.Number, 1000)}, {Name: "flex-basis", Value: num(style.Pixels, 0)}}
	if got := style.Decls("flex:1"); !slices.Equal(got, want) {
		t.Errorf("Decls(flex:1) is %v, not %v", got, want)
	}
}

// P12.1: the form of declarations.
func TestDeclarations(t *testing.T) {
	for s, want := range map[string]string{
		"":                               "",
		" ; ;; ":                         "",
		"top:0":                          "top:0px",
		"top:0;":                         "top:0px",
		" \t\n\f\rTop\t:\n0\f;\rleft:0 ": "top:0px;left:0px",
		"top:0;top:1px;top:0":            "top:0px;top:1px;top:0px",
		"z-index:1;color:red;top:0":      "z-index:1;color:#ff0000;top:0px",
		"top":                            "",
		"top;left:0":                     "left:0px",
		"top 0;left:0":                   "left:0px",
		"top=0;left:0":                   "left:0px",
		"top::0;left:0":                  "left:0px",
		"top:0:0;left:0":                 "left:0px",
		":0;left:0":                      "left:0px",
		":;left:0":                       "left:0px",
		"top:;left:0":                    "left:0px",
		"top:0 left:0;left:1px":          "left:1px",
		"t op:0;left:0":                  "left:0px",
		"top\v:0;left\u00a0:0":           "",
		"\"top\":0;'left':0;top:1px":     "top:1px",
		"(top):0;left:0":                 "left:0px",
		"top:(0);left:0":                 "left:0px",
		"top:0();left:0":                 "left:0px",
		"top:0,;left:0":                  "left:0px",
		"(;top:0;);left:0":               "left:0px",
		"[;top:0;];left:0":               "left:0px",
		"{;top:0;};left:0":               "left:0px",
		"a{top:0;}top:1px;left:0":        "left:0px",
		"(top:0;left:0":                  "",
		"top:0;(left:0;left:0":           "top:0px",
		"top:0;'left:0;left:0":           "top:0px",
		"top:0;';left:0;';left:1px":      "top:0px;left:1px",
		"top:0;\"';left:0":               "top:0px",
		"([;)left:0;];left:1px;)left:2px;left:3px": "left:1px;left:3px",
		"([;)left:0;]};left:1px":                   "left:1px",
		// What ends no part means nothing, but is not left out.
		"top:0);left:0":                     "left:0px",
		"};top:0;];left:0;);":               "top:0px;left:0px",
		")top:0;left:0":                     "left:0px",
		"))((;top:0;);top:1px;);left:0":     "left:0px",
		")(;top:0;);left:0":                 "left:0px",
		"top:0/*;*/;left:0":                 "top:0px;left:0px",
		"/*top:0;*/left:0":                  "left:0px",
		"/*top:0;left:0":                    "",
		"@x;top:0":                          "top:0px",
		"@x{};top:0":                        "top:0px",
		"@x{}top:0;left:0":                  "left:0px",
		"top:0!important":                   "top:0px!",
		"top:0 ! \t\n\f\r IMPORTANT \n":     "top:0px!",
		"top:0!IMPORTant;left:0":            "top:0px!;left:0px",
		"color:#abc!important":              "color:#aabbcc!",
		"top:inherit!important":             "top:inherit!",
		"top:!important;left:0":             "left:0px",
		"top:!;left:0":                      "left:0px",
		"top:important;left:0":              "left:0px",
		"top:0!;left:0":                     "left:0px",
		"top:0 important;left:0":            "left:0px",
		"top:0!importan;left:0":             "left:0px",
		"top:0!importantx;left:0":           "left:0px",
		"top:0!ximportant;left:0":           "left:0px",
		"top:0!!important;left:0":           "left:0px",
		"top:0!important!important;left:0":  "left:0px",
		"top:0!important 0;left:0":          "left:0px",
		"top!important:0;left:0":            "left:0px",
		"!important top:0;left:0":           "left:0px",
		"top:0'!important';left:0":          "left:0px",
		"top:0(!important);left:0":          "left:0px",
		"top:0!import\\ant;left:0":          "left:0px",
		"top:0!\u0130mportant;left:0":       "left:0px",
		"top:0;!important;left:0":           "top:0px;left:0px",
		"margin:1px!important;left:0":       "margin-top:1px!;margin-right:1px!;margin-bottom:1px!;margin-left:1px!;left:0px",
		"t\u017Fop:0;\u212Aolor:red;left:0": "left:0px",
	} {
		declares(t, s, want)
	}
}

// P12.1: the texts of values.
func TestFormatValue(t *testing.T) {
	for _, c := range []struct {
		v    style.Value
		want string
	}{
		{num(style.Pixels, 0), "0px"}, {num(style.Number, 0), "0"}, {num(style.Em, 0), "0em"}, {num(style.Percent, 0), "0%"},
		{num(style.Number, 1), "0.001"}, {num(style.Number, -1), "-0.001"}, {num(style.Number, 10), "0.01"}, {num(style.Number, 100), "0.1"}, {num(style.Number, 101), "0.101"}, {num(style.Number, 110), "0.11"}, {num(style.Number, 999), "0.999"},
		{num(style.Number, 1000), "1"}, {num(style.Number, -1000), "-1"}, {num(style.Number, 1001), "1.001"}, {num(style.Number, -1010), "-1.01"}, {num(style.Number, -1100), "-1.1"}, {num(style.Number, 10000), "10"}, {num(style.Number, 1048576000), "1048576"},
		{num(style.Pixels, 1500), "1.5px"}, {num(style.Em, -2250), "-2.25em"}, {num(style.Percent, 33333), "33.333%"}, {num(style.Pixels, 100), "0.1px"}, {num(style.Em, 120000), "120em"}, {num(style.Percent, 100000), "100%"},
		{num(style.Number, math.MaxInt), "9223372036854775.807"}, {num(style.Pixels, math.MinInt), "-9223372036854775.808px"}, {num(style.Em, math.MinInt+8), "-9223372036854775.8em"},
		{word("inline-block"), "inline-block"}, {word(""), ""}, {word("A b;"), "A b;"}, {hex("#12ab34"), "#12ab34"}, {hex("Red"), "Red"},
		// A kind shows only the field that it has.
		{style.Value{Kind: style.Keyword, Num: 5, Word: "a"}, "a"}, {style.Value{Kind: style.Color, Num: 5, Word: "a"}, "a"}, {style.Value{Kind: style.Em, Num: 5000, Word: "a"}, "5em"},
		// Another kind is none of those with a unit.
		{style.Value{Num: 5000}, "5"}, {style.Value{Kind: 7, Num: -5, Word: "a"}, "-0.005"}, {style.Value{Kind: -1, Num: 5000}, "5"}, {style.Value{Kind: math.MaxInt}, "0"},
	} {
		if got := style.FormatValue(c.v); got != c.want {
			t.Errorf("FormatValue(%v) is %q, not %q", c.v, got, c.want)
		}
	}
}

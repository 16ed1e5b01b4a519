package style

import "strings"

// maxNum is the greatest number, in thousandths, and maxDigits the greatest number of digits ahead of its point.
const (
	maxNum    = (1 << 20) * 1000
	maxDigits = 7
)

// longhands has a line for each longhand, in ascending order: its name and its values, in the order in which they are tried. Those in angle brackets are forms, in which + stands for numbers that are not negative, and the others are keywords.
const longhands = `background: <color> transparent
border-bottom-width: <length+>
border-color: <color>
border-left-width: <length+>
border-right-width: <length+>
border-top-width: <length+>
color: <color>
display: block flex inline inline-block list-item none table table-cell table-row table-row-group
flex-basis: auto <length+> <percentage+>
flex-direction: column row
flex-grow: <number+>
flex-shrink: <number+>
flex-wrap: nowrap wrap
font-size: <length+> <percentage+>
height: auto <length+> <percentage+>
left: auto <length> <percentage>
line-height: normal <number+> <length+> <percentage+>
margin-bottom: auto <length> <percentage>
margin-left: auto <length> <percentage>
margin-right: auto <length> <percentage>
margin-top: auto <length> <percentage>
max-width: none <length+> <percentage+>
min-width: <length+> <percentage+>
order: <integer>
overflow: hidden scroll visible
padding-bottom: <length+> <percentage+>
padding-left: <length+> <percentage+>
padding-right: <length+> <percentage+>
padding-top: <length+> <percentage+>
position: absolute relative static
text-align: center left right
top: auto <length> <percentage>
vertical-align: bottom middle top
visibility: hidden visible
white-space: normal nowrap pre
width: auto <length+> <percentage+>
z-index: auto <integer>`

// everywhere has the values that every property accepts as its whole value.
const everywhere = "inherit initial"

// colors has a line for each color: its name and its digits.
const colors = `black: 000000
blue: 0000ff
gray: 808080
green: 008000
maroon: 800000
navy: 000080
orange: ffa500
purple: 800080
red: ff0000
silver: c0c0c0
white: ffffff
yellow: ffff00`

// lookUp returns what a table has in the line with a name.
func lookUp(table, name string) (string, bool) {
	for table != "" {
		var line string
		line, table, _ = strings.Cut(table, "\n")
		if key, entry, _ := strings.Cut(line, ": "); key == name {
			return entry, true
		}
	}
	return "", false
}

// names returns the names of a table in their order.
func names(table string) []string {
	var list []string
	for _, line := range strings.Split(table, "\n") {
		name, _, _ := strings.Cut(line, ": ")
		list = append(list, name)
	}
	return list
}

// valueOf returns the first of some values of a table that s is. It is in lower case, without white space at its ends, here and below.
func valueOf(syntax, s string) (Value, bool) {
	for syntax != "" {
		var word string
		word, syntax, _ = strings.Cut(syntax, " ")
		if v, ok := valueAs(word, s); ok {
			return v, true
		}
	}
	return Value{}, false
}

// valueAs returns the value of s as a form or keyword of a table.
func valueAs(word, s string) (Value, bool) {
	r := scanner{rest: s}
	switch word {
	case "<color>":
		return r.color()
	case "<number+>":
		return positive(r.number())
	case "<integer>":
		return r.integer()
	case "<length>":
		return r.length()
	case "<length+>":
		return positive(r.length())
	case "<percentage>":
		return r.percentage()
	case "<percentage+>":
		return positive(r.percentage())
	}
	return Value{Kind: Keyword, Word: word}, word == s
}

// positive refuses numbers that are negative.
func positive(v Value, ok bool) (Value, bool) { return v, ok && v.Num >= 0 }

// color reads the whole text as a color.
func (s *scanner) color() (Value, bool) {
	digits, ok := lookUp(colors, s.rest)
	if s.skip("#") {
		digits = s.run(isHex)
		ok = s.rest == ""
	}
	if len(digits) == 3 {
		digits = string([]byte{digits[0], digits[0], digits[1], digits[1], digits[2], digits[2]})
	}
	return Value{Kind: Color, Word: "#" + digits}, ok && len(digits) == 6
}

func isDigit(c byte) bool { return c >= '0' && c <= '9' }

func isHex(c byte) bool { return isDigit(c) || c >= 'a' && c <= 'f' }

// number reads the whole text as a number.
func (s *scanner) number() (Value, bool) {
	num, ok := s.thousandths()
	return Value{Kind: Number, Num: num}, ok && s.rest == ""
}

// integer reads the whole text as a number without thousandths.
func (s *scanner) integer() (Value, bool) {
	v, ok := s.number()
	return v, ok && v.Num%1000 == 0
}

// length reads the whole text as a length.
func (s *scanner) length() (Value, bool) {
	num, ok := s.thousandths()
	switch s.rest {
	case "px":
		return Value{Kind: Pixels, Num: num}, ok
	case "em":
		return Value{Kind: Em, Num: num}, ok
	case "":
		return Value{Kind: Pixels}, ok && num == 0
	}
	return Value{}, false
}

// percentage reads the whole text as a percentage.
func (s *scanner) percentage() (Value, bool) {
	num, ok := s.thousandths()
	return Value{Kind: Percent, Num: num}, ok && s.rest == "%"
}

// thousandths reads a number, and returns its thousandths.
func (s *scanner) thousandths() (int, bool) {
	negative := s.skip("-")
	if !negative {
		s.skip("+")
	}
	whole := s.run(isDigit)
	fraction := "000"
	ok := whole != "" && len(whole) <= maxDigits
	if s.skip(".") {
		digits := s.run(isDigit)
		ok = ok && digits != ""
		fraction = (digits + fraction)[:len(fraction)]
	}
	if !ok {
		return 0, false
	}
	num := decimal(whole + fraction)
	if negative {
		return -num, num <= maxNum
	}
	return num, num <= maxNum
}

// decimal returns the number that digits stand for.
func decimal(digits string) int {
	n := 0
	for i := range len(digits) {
		n = 10*n + int(digits[i]-'0')
	}
	return n
}

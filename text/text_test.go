package text_test

import (
	"slices"
	"strings"
	"testing"

	"knapsack/text"
)

// bounds contains the bytes at which the rules of UTF-8 begin or end.
const bounds = "\x00\x41\x7F\x80\x8F\x90\x9F\xA0\xBF\xC0\xC1\xC2\xDF\xE0\xE1\xEC\xED\xEE\xEF\xF0\xF1\xF3\xF4\xF5\xF7\xF8\xFF"

// spaces are the bytes that are white space.
const spaces = "\t\n\f\r "

// sequence returns the length of the valid sequence that s begins with, 0 if there is none. It follows the document's words, not the library.
func sequence(s string) int {
	if s == "" {
		return 0
	}
	size, point, least := 0, 0, 0
	switch first := int(s[0]); {
	case first < 0x80:
		return 1
	case first>>5 == 0x6:
		size, point, least = 2, first&0x1F, 0x80
	case first>>4 == 0xE:
		size, point, least = 3, first&0xF, 0x800
	case first>>3 == 0x1E:
		size, point, least = 4, first&0x7, 0x10000
	default:
		return 0
	}
	if len(s) < size {
		return 0
	}
	for i := 1; i < size; i++ {
		if s[i]>>6 != 2 {
			return 0
		}
		point = point<<6 | int(s[i]&0x3F)
	}
	if point < least || point > 0x10FFFF || point >= 0xD800 && point <= 0xDFFF {
		return 0
	}
	return size
}

// parts returns the code points of the repaired form of s, each as a string.
func parts(s string) []string {
	var list []string
	for s != "" {
		size := sequence(s)
		if size == 0 {
			list, s = append(list, "\xEF\xBF\xBD"), s[1:]
			continue
		}
		list, s = append(list, s[:size]), s[size:]
	}
	return list
}

func repaired(s string) string { return strings.Join(parts(s), "") }

// begins reports whether s is a proper beginning of a valid sequence.
func begins(s string) bool {
	if len(s) >= 4 {
		return false
	}
	// For every first byte, one of these can be the next byte of a valid sequence.
	for _, next := range []string{"\x80", "\x90", "\xA0"} {
		if size := sequence(s + next); size == len(s)+1 || begins(s+next) {
			return true
		}
	}
	return false
}

// kept returns the longest end of s that is a proper beginning of a valid sequence.
func kept(s string) string {
	for i := range len(s) {
		if begins(s[i:]) {
			return s[i:]
		}
	}
	return ""
}

// each calls visit for every string of at most length bytes of alphabet.
func each(alphabet string, length int, visit func(s string)) {
	visit("")
	if length == 0 {
		return
	}
	var grow func(s string)
	grow = func(s string) {
		for i := range len(alphabet) {
			longer := s + alphabet[i:i+1]
			visit(longer)
			if len(longer) < length {
				grow(longer)
			}
		}
	}
	grow("")
}

// random returns numbers that are the same in every run.
func random() func(below int) int {
	state := uint64(1)
	return func(below int) int {
		state = state*6364136223846793005 + 1442695040888963407
		return int(state>>33) % below
	}
}

// mixed returns a string of valid sequences, broken ones, and white space.
func mixed(next func(below int) int, length int) string {
	pieces := []string{
		"a", "Z", " ", "\n", "\r", "\r\n", "\x00", "\x7F", "é", "€", "\uFFFD", "\U0001F600", "\U0010FFFF",
		"\x80", "\xBF", "\xC2", "\xE2", "\xE2\x82", "\xF0\x9F", "\xF0\x9F\x98", "\xED\xA0\x80", "\xC0\x80", "\xF4\x90\x80\x80", "\xFF",
	}
	var b strings.Builder
	for range next(length + 1) {
		b.WriteString(pieces[next(len(pieces))])
	}
	return b.String()
}

func points(s string) []string {
	var list []string
	for i, r := range text.Points(s) {
		if i != len(list) {
			return []string{"wrong index"}
		}
		list = append(list, string(r))
	}
	return list
}

// checkPoints compares all functions about code points with the words of the document.
func checkPoints(t *testing.T, s string) {
	t.Helper()
	list := parts(s)
	want := strings.Join(list, "")
	if got := text.Repair(s); got != want {
		t.Fatalf("Repair(%q) is %q, not %q", s, got, want)
	}
	if got := text.Valid(s); got != (s == want) {
		t.Fatalf("Valid(%q) is %v", s, got)
	}
	if got := text.Len(s); got != len(list) {
		t.Fatalf("Len(%q) is %d, not %d", s, got, len(list))
	}
	if got := points(s); !slices.Equal(got, list) {
		t.Fatalf("Points(%q) yields %q, not %q", s, got, list)
	}
}

// P2.1: Repair, Valid, Len and Points, for the examples of the document and the edges of UTF-8.
func TestPointsOfExamples(t *testing.T) {
	for _, c := range []struct {
		s, want string
		count   int
	}{
		{"", "", 0},
		{"a\xFFb", "a\uFFFDb", 3},
		{"\xE2\x82", "\uFFFD\uFFFD", 2},
		{"aé€", "aé€", 3},
		{"\x00", "\x00", 1},
		{"\uFFFD", "\uFFFD", 1},
		{"\xED\x9F\xBF\xEE\x80\x80", "\uD7FF\uE000", 2},
		{"\xED\xA0\x80", "\uFFFD\uFFFD\uFFFD", 3},
		{"\xED\xBF\xBF", "\uFFFD\uFFFD\uFFFD", 3},
		{"\xC0\x80", "\uFFFD\uFFFD", 2},
		{"\xC1\xBF\xC2\x80", "\uFFFD\uFFFD\u0080", 3},
		{"\xE0\x9F\xBF\xE0\xA0\x80", "\uFFFD\uFFFD\uFFFD\u0800", 4},
		{"\xF0\x8F\xBF\xBF", "\uFFFD\uFFFD\uFFFD\uFFFD", 4},
		{"\xF0\x90\x80\x80", "\U00010000", 1},
		{"\xF4\x8F\xBF\xBF", "\U0010FFFF", 1},
		{"\xF4\x90\x80\x80", "\uFFFD\uFFFD\uFFFD\uFFFD", 4},
		{"\xF0\x9F\x98a", "\uFFFD\uFFFD\uFFFDa", 4},
		{"\xE2\x82\xE2\x82\xAC", "\uFFFD\uFFFD€", 3},
	} {
		if got := text.Repair(c.s); got != c.want {
			t.Errorf("Repair(%q) is %q, not %q", c.s, got, c.want)
		}
		if got := text.Len(c.s); got != c.count {
			t.Errorf("Len(%q) is %d, not %d", c.s, got, c.count)
		}
		if got := text.Valid(c.s); got != (c.s == c.want) {
			t.Errorf("Valid(%q) is %v", c.s, got)
		}
	}
}

// P2.1: Repair, Valid, Len and Points, for all short strings of the bytes that matter, and for long ones.
func TestPointsOfAllStrings(t *testing.T) {
	each(bounds, 3, func(s string) { checkPoints(t, s) })
	each("\x41\x80\x8F\x90\x9F\xA0\xBF\xC2\xE0\xED\xF0\xF4", 4, func(s string) { checkPoints(t, s) })
	next := random()
	for range 2000 {
		checkPoints(t, mixed(next, 30))
	}
}

// P2.1: Repair keeps every code point that is no surrogate.
func TestRepairKeepsAllPoints(t *testing.T) {
	for r := rune(0); r <= 0x10FFFF; r++ {
		if r >= 0xD800 && r <= 0xDFFF {
			continue
		}
		if s := string(r); text.Repair(s) != s || !text.Valid(s) || text.Len(s) != 1 {
			t.Fatalf("the code point %#x is not kept", r)
		}
	}
}

// P2.1: Points ends with the loop, and yields the same each time it is ranged over.
func TestPointsIsLeftAndRangedOverAgain(t *testing.T) {
	seq := text.Points("aé\xFF€")
	for range 2 {
		var indices []int
		var runes []rune
		for i, r := range seq {
			indices, runes = append(indices, i), append(runes, r)
			if i == 2 {
				break
			}
		}
		if !slices.Equal(indices, []int{0, 1, 2}) || !slices.Equal(runes, []rune{'a', 'é', 0xFFFD}) {
			t.Errorf("Points yields %d and %q", indices, runes)
		}
	}
	calls := 0
	seq(func(int, rune) bool { calls++; return false })
	if calls != 1 {
		t.Errorf("Points goes on %d times after the loop was left", calls-1)
	}
}

// P2.1: Slice with numbers in order, out of order, and outside of the text.
func TestSlice(t *testing.T) {
	const least, most = -1 << 63, 1<<63 - 1
	for _, c := range []struct {
		s        string
		from, to int
		want     string
	}{
		{"aé€", 1, 9, "é€"},
		{"aé€", 0, 3, "aé€"},
		{"aé€", 1, 2, "é"},
		{"aé€", 2, 2, ""},
		{"aé€", 2, 1, ""},
		{"aé€", -5, 1, "a"},
		{"aé€", -5, -1, ""},
		{"aé€", 3, 9, ""},
		{"aé€", 9, 12, ""},
		{"aé€", least, most, "aé€"},
		{"aé€", most, least, ""},
		{"aé€", least, least, ""},
		{"aé€", most, most, ""},
		{"", 0, 1, ""},
		{"a\xE2\x82b", 1, 3, "\uFFFD\uFFFD"},
		{"a\xE2\x82b", 2, 4, "\uFFFDb"},
		{"a\xE2\x82\xAC", 1, 2, "€"},
	} {
		if got := text.Slice(c.s, c.from, c.to); got != c.want {
			t.Errorf("Slice(%q, %d, %d) is %q, not %q", c.s, c.from, c.to, got, c.want)
		}
	}
	next := random()
	for range 500 {
		s := mixed(next, 8)
		list := parts(s)
		for from := -2; from <= len(list)+2; from++ {
			for to := -2; to <= len(list)+2; to++ {
				low, high := min(max(from, 0), len(list)), min(max(to, 0), len(list))
				want := strings.Join(list[low:max(low, high)], "")
				if got := text.Slice(s, from, to); got != want {
					t.Fatalf("Slice(%q, %d, %d) is %q, not %q", s, from, to, got, want)
				}
			}
		}
	}
}

// P2.1: Lower and Upper change the 26 letters, and no other byte.
func TestLowerAndUpper(t *testing.T) {
	for i := range 256 {
		c := byte(i)
		low, high := c, c
		if c >= 'A' && c <= 'Z' {
			low = c + 32
		}
		if c >= 'a' && c <= 'z' {
			high = c - 32
		}
		s := "x" + string([]byte{c}) + "X"
		if got, want := text.Lower(s), "x"+string([]byte{low})+"x"; got != want {
			t.Errorf("Lower(%q) is %q, not %q", s, got, want)
		}
		if got, want := text.Upper(s), "X"+string([]byte{high})+"X"; got != want {
			t.Errorf("Upper(%q) is %q, not %q", s, got, want)
		}
	}
	for _, s := range []string{"", "éÉ", "\u017F\u212A\u0130", "\xFF\xC3"} {
		if text.Lower(s) != s || text.Upper(s) != s {
			t.Errorf("%q becomes %q and %q", s, text.Lower(s), text.Upper(s))
		}
	}
}

// P2.1: five bytes are white space, and no other.
func TestIsSpace(t *testing.T) {
	for i := range 256 {
		c := byte(i)
		want := c == 9 || c == 10 || c == 12 || c == 13 || c == 32
		if got := text.IsSpace(c); got != want {
			t.Errorf("IsSpace(%d) is %v", c, got)
		}
		if got := text.Blank(string([]byte{' ', c, '\n'})); got != want {
			t.Errorf("Blank of a string with the byte %d is %v", c, got)
		}
	}
}

// P2.1: Blank, Trim, Collapse and Fields of chosen strings.
func TestWhiteSpace(t *testing.T) {
	for _, c := range []struct {
		s, trimmed, collapsed string
		fields                []string
	}{
		{"", "", "", nil},
		{" ", "", " ", nil},
		{"\t\n\f\r ", "", " ", nil},
		{" a \n b", "a \n b", " a b", []string{"a", "b"}},
		{"a", "a", "a", []string{"a"}},
		{"a b ", "a b", "a b ", []string{"a", "b"}},
		{"\r\na\tb\f\fc", "a\tb\f\fc", " a b c", []string{"a", "b", "c"}},
		{" \v ", "\v", " \v ", []string{"\v"}},
		{"\u00A0a\u0085\u2003b\u3000", "\u00A0a\u0085\u2003b\u3000", "\u00A0a\u0085\u2003b\u3000", []string{"\u00A0a\u0085\u2003b\u3000"}},
		{"\u0120a\u010A \u0109b\u200D", "\u0120a\u010A \u0109b\u200D", "\u0120a\u010A \u0109b\u200D", []string{"\u0120a\u010A", "\u0109b\u200D"}},
		{" \xFF \xE2\x82 ", "\xFF \xE2\x82", " \xFF \xE2\x82 ", []string{"\xFF", "\xE2\x82"}},
		{" \x85\xA0 ", "\x85\xA0", " \x85\xA0 ", []string{"\x85\xA0"}},
	} {
		if got := text.Blank(c.s); got != (c.trimmed == "") {
			t.Errorf("Blank(%q) is %v", c.s, got)
		}
		if got := text.Trim(c.s); got != c.trimmed {
			t.Errorf("Trim(%q) is %q, not %q", c.s, got, c.trimmed)
		}
		if got := text.Collapse(c.s); got != c.collapsed {
			t.Errorf("Collapse(%q) is %q, not %q", c.s, got, c.collapsed)
		}
		if got := text.Fields(c.s); !slices.Equal(got, c.fields) {
			t.Errorf("Fields(%q) is %q, not %q", c.s, got, c.fields)
		}
	}
}

// runs cuts s into maximal runs of white space and of other bytes; the first one has white space, but may be empty.
func runs(s string) []string {
	list := []string{""}
	for i := range len(s) {
		white := strings.IndexByte(spaces, s[i]) >= 0
		if white != (len(list)%2 == 1) {
			list = append(list, "")
		}
		list[len(list)-1] += s[i : i+1]
	}
	return list
}

// P2.1: Blank, Trim, Collapse and Fields of all short strings.
func TestWhiteSpaceOfAllStrings(t *testing.T) {
	each(spaces+"a\v\xC2\xA0", 4, func(s string) {
		var collapsed string
		var fields []string
		list := runs(s)
		for i, run := range list {
			if i%2 == 1 {
				collapsed += run
				fields = append(fields, run)
			} else if run != "" {
				collapsed += " "
			}
		}
		trimmed := ""
		if len(list) > 1 {
			trimmed = s[len(list[0]):]
		}
		if len(list) > 1 && len(list)%2 == 1 {
			trimmed = strings.TrimSuffix(trimmed, list[len(list)-1])
		}
		if text.Blank(s) != (len(fields) == 0) || text.Trim(s) != trimmed || text.Collapse(s) != collapsed || !slices.Equal(text.Fields(s), fields) {
			t.Fatalf("%q: Blank %v, Trim %q, Collapse %q, Fields %q", s, text.Blank(s), text.Trim(s), text.Collapse(s), text.Fields(s))
		}
	})
}

// P2.1: Newlines removes a line feed only directly after a carriage return.
func TestNewlines(t *testing.T) {
	for _, c := range []struct{ s, want string }{
		{"", ""},
		{"a\r\nb\r", "a\nb\n"},
		{"\r\r\n", "\n\n"},
		{"\r\n\n", "\n\n"},
		{"\n\r", "\n\n"},
		{"\n\r\n", "\n\n"},
		{"a\n\fb", "a\n\fb"},
		{"\xFF\r\xE2\r\n", "\xFF\n\xE2\n"},
	} {
		if got := text.Newlines(c.s); got != c.want {
			t.Errorf("Newlines(%q) is %q, not %q", c.s, got, c.want)
		}
	}
	each("\r\na", 6, func(s string) {
		want := ""
		for i := range len(s) {
			if s[i] == '\r' {
				want += "\n"
			} else if s[i] != '\n' || i == 0 || s[i-1] != '\r' {
				want += s[i : i+1]
			}
		}
		if got := text.Newlines(s); got != want {
			t.Fatalf("Newlines(%q) is %q, not %q", s, got, want)
		}
	})
}

// P2.1: Feed keeps back exactly a proper beginning of a valid sequence.
func TestFeedKeepsWhatMayBeCompleted(t *testing.T) {
	check := func(s string) {
		rest := kept(s)
		want := repaired(s[:len(s)-len(rest)])
		var d text.Decoder
		if got := d.Feed(s); got != want || d.Rest != rest {
			t.Fatalf("Feed(%q) is %q with the rest %q, not %q with %q", s, got, d.Rest, want, rest)
		}
		if got := d.End(); got != repaired(rest) || d != (text.Decoder{}) {
			t.Fatalf("End after %q is %q with the rest %q", s, got, d.Rest)
		}
	}
	each(bounds, 3, check)
	each("\x41\x80\x8F\x90\x9F\xA0\xBF\xC2\xE0\xED\xF0\xF4", 4, check)
}

// P2.1: the results of a decoder step by step, and that it is new after End.
func TestDecoderSteps(t *testing.T) {
	var d text.Decoder
	for i, c := range []struct{ piece, want, rest string }{
		{"\xE2", "", "\xE2"},
		{"\x82\xAC", "€", ""},
		{"", "", ""},
		{"a\xF0", "a", "\xF0"},
		{"", "", "\xF0"},
		{"\x9F", "", "\xF0\x9F"},
		{"\x98", "", "\xF0\x9F\x98"},
		{"b", "\uFFFD\uFFFD\uFFFDb", ""},
		{"\xE2\x82", "", "\xE2\x82"},
		{"\xE2\x82", "\uFFFD\uFFFD", "\xE2\x82"},
		{"\xAC\xE0", "€", "\xE0"},
		{"\x9F", "\uFFFD\uFFFD", ""},
		{"\xED\xA0", "\uFFFD\uFFFD", ""},
		{"\xC0", "\uFFFD", ""},
		{"\xF4\x90", "\uFFFD\uFFFD", ""},
		{"\xF5", "\uFFFD", ""},
		{"x\xC2", "x", "\xC2"},
	} {
		if got := d.Feed(c.piece); got != c.want || d.Rest != c.rest {
			t.Errorf("step %d: Feed(%q) is %q with the rest %q, not %q with %q", i, c.piece, got, d.Rest, c.want, c.rest)
		}
	}
	if got := d.End(); got != "\uFFFD" || d != (text.Decoder{}) {
		t.Errorf("End is %q and leaves %#v", got, d)
	}
	if got := d.End(); got != "" {
		t.Errorf("End of a new decoder is %q", got)
	}
	if got := d.Feed("\x80é"); got != "\uFFFDé" {
		t.Errorf("after End, Feed is %q", got)
	}
}

// P2.1: a Rest that no decoder makes counts as the beginning of the next piece.
func TestDecoderWithAnyRest(t *testing.T) {
	next := random()
	for range 2000 {
		rest, piece := mixed(next, 4), mixed(next, 4)
		d, whole := text.Decoder{Rest: rest}, text.Decoder{}
		got, want := d.Feed(piece), whole.Feed(rest+piece)
		if got != want || d != whole {
			t.Fatalf("Feed(%q) with the rest %q is %q and leaves %#v, not %q and %#v", piece, rest, got, d, want, whole)
		}
		d = text.Decoder{Rest: rest}
		if got := d.End(); got != repaired(rest) || d != (text.Decoder{}) {
			t.Fatalf("End with the rest %q is %q and leaves %#v", rest, got, d)
		}
	}
}

// P2.2: what is repaired is valid, and is not changed by repairing it again.
func TestRepairingIsIdempotent(t *testing.T) {
	check := func(s string) {
		once := text.Repair(s)
		if !text.Valid(once) || text.Repair(once) != once {
			t.Fatalf("Repair(%q) is %q, and of this %q", s, once, text.Repair(once))
		}
	}
	each(bounds, 3, check)
	next := random()
	for range 2000 {
		check(mixed(next, 30))
	}
}

// P2.2: a text in pieces becomes the repaired text, for every division of short texts and for many of long ones.
func TestPiecesBecomeTheRepairedText(t *testing.T) {
	check := func(s string, cut func(at int) bool) {
		var d text.Decoder
		got, start := "", 0
		for at := 0; at <= len(s); at++ {
			if cut(at) {
				got += d.Feed(s[start:at])
				start = at
			}
		}
		got += d.Feed(s[start:])
		got += d.End()
		if want := repaired(s); got != want || want != text.Repair(s) {
			t.Fatalf("the pieces of %q become %q, not %q", s, got, want)
		}
	}
	for _, s := range []string{
		"", "a", "aé€\U0001F600", "\xF0\x9F\x98\xE2\x82\xACa", "\xED\xA0\x80\xED\x9F\xBF", "\xF4\x90\x80\x80\xF4\x8F\xBF\xBF", "\xE2\xE2\x82\xE2\x82\xAC\xC2", "\xF0\xF0\x90\xF0\x90\x80\xF0\x90\x80\x80",
	} {
		for cuts := range 1 << (len(s) + 1) {
			check(s, func(at int) bool { return cuts>>at&1 == 1 })
		}
	}
	next := random()
	for range 5000 {
		check(mixed(next, 20), func(int) bool { return next(3) == 0 })
	}
}

// P2.3: two slices that meet are the repaired text.
func TestSlicesMeet(t *testing.T) {
	check := func(s string) {
		length := text.Len(s)
		for k := range length + 1 {
			got := text.Slice(s, 0, k) + text.Slice(s, k, length)
			if want := repaired(s); got != want || want != text.Repair(s) {
				t.Fatalf("the slices of %q at %d are %q together, not %q", s, k, got, want)
			}
		}
	}
	each("\x41\x80\x90\xA0\xC2\xE0\xED\xF0\xF4", 4, check)
	next := random()
	for range 1000 {
		check(mixed(next, 30))
	}
}

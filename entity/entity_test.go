package entity_test

import (
	"math"
	"math/big"
	"regexp"
	"slices"
	"strings"
	"testing"
	"unicode/utf8"

	"knapsack/entity"
)

// unknown is U+FFFD.
const unknown = "\xEF\xBF\xBD"

// chars returns the characters of the names, as the document lists them.
func chars() map[string]string {
	return map[string]string{
		"amp": "&", "lt": "<", "gt": ">", "quot": "\"", "apos": "'", "nbsp": "\u00A0",
		"copy": "\u00A9", "reg": "\u00AE", "trade": "\u2122", "hellip": "\u2026",
		"mdash": "\u2014", "ndash": "\u2013", "lsquo": "\u2018", "rsquo": "\u2019",
		"ldquo": "\u201C", "rdquo": "\u201D", "bull": "\u2022", "middot": "\u00B7",
		"times": "\u00D7", "divide": "\u00F7", "deg": "\u00B0", "plusmn": "\u00B1",
		"euro": "\u20AC", "pound": "\u00A3", "yen": "\u00A5", "cent": "\u00A2",
		"sect": "\u00A7", "para": "\u00B6", "larr": "\u2190", "rarr": "\u2192",
	}
}

// bare returns the names that need no ; after them.
func bare() []string { return []string{"amp", "lt", "gt", "quot"} }

// random returns a function whose results are those of a fixed sequence, each reduced to less than its argument.
func random() func(below int) int {
	state := uint64(1)
	return func(below int) int {
		state = state*6364136223846793005 + 1442695040888963407
		return int(state>>33) % below
	}
}

// randomString returns up to most parts, among them many beginnings of references.
func randomString(next func(below int) int, most int) string {
	parts := []string{
		"&", "&", "&", "#", "#x", "#X", ";", ";", "=", "0", "9", "65", "42", "a", "F", "x", "g", "Z",
		"amp", "lt", "gt", "quot", "apos", "nbsp", "euro", "no", "&#", "&#x", "&amp", "&lt;",
		"<", ">", "\"", "'", "\r", "\n", " ", "\x00", "\x80", "\xFF", "\xE2\x82", "€", "é", "D800", "10FFFF",
	}
	var b strings.Builder
	for range next(most + 1) {
		b.WriteString(parts[next(len(parts))])
	}
	return b.String()
}

// model is the reference at the beginning of strings, by the words of the document's rules.
type model struct {
	number *regexp.Regexp
	chars  map[string]string
}

func newModel() model {
	return model{regexp.MustCompile(`^&#(?:[xX]([0-9a-fA-F]+)|([0-9]+));?`), chars()}
}

func (m model) next(s string) (string, int) {
	if found := m.number.FindStringSubmatch(s); found != nil {
		digits, base := found[2], 10
		if found[1] != "" {
			digits, base = found[1], 16
		}
		n, _ := new(big.Int).SetString(digits, base)
		if !n.IsInt64() || n.Int64() > utf8.MaxRune || n.Int64() == 0 || !utf8.ValidRune(rune(n.Int64())) {
			return unknown, len(found[0])
		}
		return string(rune(n.Int64())), len(found[0])
	}
	for name, char := range m.chars {
		if strings.HasPrefix(s, "&"+name+";") {
			return char, len(name) + 2
		}
	}
	for _, name := range bare() {
		rest, ok := strings.CutPrefix(s, "&"+name)
		if ok && (rest == "" || !strings.Contains("abcdefghijklmnopqrstuvwxyzABCDEFGHIJKLMNOPQRSTUVWXYZ0123456789=", rest[:1])) {
			return m.chars[name], len(name) + 1
		}
	}
	return "", 0
}

func (m model) decode(s string) string {
	decoded := ""
	for s != "" {
		char, size := m.next(s)
		if size == 0 {
			char, size = s[:1], 1
		}
		decoded, s = decoded+char, s[size:]
	}
	return decoded
}

func looks(t *testing.T, name, want string, there bool) {
	t.Helper()
	if got, ok := entity.Lookup(name); got != want || ok != there {
		t.Errorf("Lookup(%q) is %q, %v and not %q, %v", name, got, ok, want, there)
	}
}

func begins(t *testing.T, s, want string, size int) {
	t.Helper()
	if got, n := entity.Next(s); got != want || n != size {
		t.Errorf("Next(%.60q) is %q, %d and not %q, %d", s, got, n, want, size)
	}
}

func decodes(t *testing.T, s, want string) {
	t.Helper()
	if got := entity.Decode(s); got != want {
		t.Errorf("Decode(%.60q) is %.60q and not %.60q", s, got, want)
	}
}

// P5.1: Lookup finds the character of each name.
func TestLookup(t *testing.T) {
	for name, char := range chars() {
		looks(t, name, char, true)
	}
}

// P5.1: Lookup finds nothing for any other string, such as one near to a name.
func TestLookupOfOtherStrings(t *testing.T) {
	names := chars()
	others := []string{"", "a", "zzz", "AMP", "Lt", "nosuch", "\x00", "\xFF", "&", "#65", "lt\x00", strings.Repeat("amp", 1000)}
	for name := range names {
		others = append(others, name[:len(name)-1], name[1:], name+";", "&"+name, " "+name, name+" ", name+name,
			strings.ToUpper(name), strings.ToUpper(name[:1])+name[1:])
		for i := range len(name) {
			for _, by := range []byte{0, 1, 0xFF} {
				others = append(others, name[:i]+string([]byte{name[i] + by})+name[i+1:], name[:i]+string([]byte{by})+name[i:])
			}
		}
	}
	for _, other := range others {
		if _, ok := names[other]; !ok {
			looks(t, other, "", false)
		}
	}
}

// P5.1: Names returns the 30 names in ascending order, in new memory each time.
func TestNames(t *testing.T) {
	var want []string
	for name := range chars() {
		want = append(want, name)
	}
	slices.Sort(want)
	for range 2 {
		got := entity.Names()
		if len(got) != 30 || !slices.Equal(got, want) {
			t.Fatalf("Names() is %q and not %q", got, want)
		}
		for i := range got {
			got[i] = "changed"
		}
		_ = append(got, "more")
	}
	looks(t, "amp", "&", true)
}

// P5.1: Number returns the code point for each number that is one.
func TestNumber(t *testing.T) {
	for n := -300; n <= 0x10FFFF+300; n++ {
		want := unknown
		if n >= 1 && n < 0xD800 || n > 0xDFFF && n <= 0x10FFFF {
			want = string(utf8.AppendRune(nil, rune(n)))
		}
		if got := entity.Number(n); got != want {
			t.Fatalf("Number(%#x) is %q and not %q", n, got, want)
		}
	}
}

// P5.1: Number returns U+FFFD for what is far away from a code point, even if its lowest bits are one.
func TestNumberOfNoCodePoint(t *testing.T) {
	for _, n := range []int{
		math.MinInt, math.MinInt + 65, math.MinInt32, -65, -1, 0, 0xD800, 0xDFFF, 0x110000,
		math.MaxInt32, math.MaxUint32, 1<<32 + 65, 1<<62 + 65, math.MaxInt,
	} {
		if got := entity.Number(n); got != unknown {
			t.Errorf("Number(%d) is %q", n, got)
		}
	}
}

// P5.1: a reference by number ends with its last digit, or with a ; that follows it.
func TestNextByNumber(t *testing.T) {
	begins(t, "&#65;", "A", 5)
	begins(t, "&#65", "A", 4)
	begins(t, "&#65x", "A", 4)
	begins(t, "&#65;;", "A", 5)
	begins(t, "&#65 ;", "A", 4)
	begins(t, "&#65=", "A", 4)
	begins(t, "&#65&#66;", "A", 4)
	begins(t, "&#0065;", "A", 7)
	begins(t, "&#x42;", "B", 6)
	begins(t, "&#X42", "B", 5)
	begins(t, "&#x42g", "B", 5)
	begins(t, "&#x20aC;9", "€", 8)
	begins(t, "&#xAbCdEf", unknown, 9)
	begins(t, "&#x1f600;", "\U0001F600", 9)
	begins(t, "&#4a;", "\x04", 3)
	begins(t, "&#4A;", "\x04", 3)
	begins(t, "&#13;", "\r", 5)
	begins(t, "&#128;", "\u0080", 6)
}

// P5.1: a number that is no code point stands for U+FFFD, however many digits it has.
func TestNextByNumberOfNoCodePoint(t *testing.T) {
	begins(t, "&#0;", unknown, 4)
	begins(t, "&#x0", unknown, 4)
	begins(t, "&#xD800;", unknown, 8)
	begins(t, "&#57343", unknown, 7)
	begins(t, "&#xD7FF;", "\uD7FF", 8)
	begins(t, "&#xE000;", "\uE000", 8)
	begins(t, "&#x10FFFF;", "\U0010FFFF", 10)
	begins(t, "&#x110000;", unknown, 10)
	begins(t, "&#1114111;", "\U0010FFFF", 10)
	begins(t, "&#1114112;", unknown, 10)
	begins(t, "&#1114120;", unknown, 10)
	begins(t, "&#4294967361;", unknown, 13)
	begins(t, "&#x100000041;", unknown, 13)
	begins(t, "&#18446744073709551681;", unknown, 23)
	begins(t, "&#x10000000000000041;", unknown, 21)
	for _, size := range []int{8, 16, 17, 100, 100000} {
		begins(t, "&#1"+strings.Repeat("0", size)+";z", unknown, size+4)
		begins(t, "&#x1"+strings.Repeat("0", size)+"z", unknown, size+4)
		begins(t, "&#"+strings.Repeat("9", size), unknown, size+2)
		begins(t, "&#x"+strings.Repeat("f", size), unknown, size+3)
		begins(t, "&#"+strings.Repeat("0", size)+"65;", "A", size+5)
		begins(t, "&#x"+strings.Repeat("0", size)+"41z", "A", size+5)
	}
}

// P5.1: each name with a ; is a reference; only four of them are one without it.
func TestNextByName(t *testing.T) {
	begins(t, "&euro;1", "€", 6)
	for name, char := range chars() {
		for _, rest := range []string{"", ";", "a", "=", "&", "€"} {
			begins(t, "&"+name+";"+rest, char, len(name)+2)
		}
		if !slices.Contains(bare(), name) {
			for _, rest := range []string{"", " ", "a", "=", "&", "\x00;", " ;"} {
				begins(t, "&"+name+rest, "", 0)
			}
		}
		begins(t, "&"+strings.ToUpper(name)+";", "", 0)
		begins(t, "&"+name[:len(name)-1]+";", "", 0)
		begins(t, "&"+name+"x;", "", 0)
		begins(t, "& "+name+";", "", 0)
	}
}

// P5.1: a name without ; is a reference if no letter, digit or = follows, for each possible next byte.
func TestNextByBareName(t *testing.T) {
	names := chars()
	for _, name := range bare() {
		begins(t, "&"+name, names[name], len(name)+1)
		for c := range 256 {
			next := string([]byte{byte(c)})
			switch {
			case next == ";":
				begins(t, "&"+name+next, names[name], len(name)+2)
			case strings.ContainsAny(next, "=0123456789") || c < 0x80 && strings.ToUpper(next) != strings.ToLower(next):
				begins(t, "&"+name+next, "", 0)
				begins(t, "&"+name+next+";", "", 0)
			default:
				begins(t, "&"+name+next, names[name], len(name)+1)
				begins(t, "&"+name+next+"a;", names[name], len(name)+1)
			}
		}
	}
}

// P5.1: a string that begins with no reference has none, whatever follows.
func TestNextWithoutReference(t *testing.T) {
	for _, s := range []string{
		"", "a", "amp;", " &amp;", "&", "&&", "&&amp;", "&;", "&#", "&#;", "&#x", "&#X;", "&#xg1;", "&#x;41;", "&#-1;", "&#+1;",
		"&# 65;", "&#x x41;", "&#xx41;", "&#a;", "&##65;", "&#amp;", "&x41;", "&65;", "&nosuch;", "&LT", "&Amp;", "&ampersand;",
		"&lt1;", "&gt=;", "\x00&lt;", "\xFF", "&\xFF;", "&\x00amp;", "&#\xD9\xA1;", "&#\xEF\xBC\x91;", "&am\u0000p;", "&;amp;",
	} {
		begins(t, s, "", 0)
	}
}

// P5.1: Next follows the document's rules on any string.
func TestNextIsAsTheModel(t *testing.T) {
	next, m := random(), newModel()
	for range 20000 {
		s := "&" + randomString(next, 5)
		want, size := m.next(s)
		begins(t, s, want, size)
	}
}

// P5.1: Decode replaces each reference and keeps everything else.
func TestDecode(t *testing.T) {
	decodes(t, "", "")
	decodes(t, "a &lt; b &amp;&amp; c", "a < b && c")
	decodes(t, "&#65;&#x42;&#0;", "AB"+unknown)
	decodes(t, "&nosuch; &lt &ltx &copy", "&nosuch; < &ltx &copy")
	decodes(t, "&lt&gt&amp&quot", "<>&\"")
	decodes(t, "&#65&#66", "AB")
	decodes(t, "&&lt;&", "&<&")
	decodes(t, "&&&", "&&&")
	decodes(t, "&#&#x&#xg&;", "&#&#x&#xg&;")
	decodes(t, "&nbsp;&hellip;&rarr;", "\u00A0\u2026\u2192")
}

// P5.1: the result is not decoded again, nor does what a reference stands for join with what follows it.
func TestDecodeIsDoneOnce(t *testing.T) {
	decodes(t, "&amp;lt;", "&lt;")
	decodes(t, "&amp;amp;lt;", "&amp;lt;")
	decodes(t, "&amp;#65;", "&#65;")
	decodes(t, "&#38;lt;", "&lt;")
	decodes(t, "&#38;&#35;65;", "&#65;")
	decodes(t, "&am&#112;;", "&amp;")
	decodes(t, "&#6&#53;;", "\x065;")
}

// P5.1: bytes outside of references are kept, also those that are no UTF-8.
func TestDecodeKeepsBytes(t *testing.T) {
	decodes(t, "\xFF&lt;\xE2\x82&#x80;\x00\r\n", "\xFF<\xE2\x82\u0080\x00\r\n")
	decodes(t, "\xE2&#130;\xAC", "\xE2\u0082\xAC")
	decodes(t, "&\xFF", "&\xFF")
}

// P5.1: Decode follows the document's rules on any string.
func TestDecodeIsAsTheModel(t *testing.T) {
	next, m := random(), newModel()
	for range 10000 {
		s := randomString(next, 12)
		decodes(t, s, m.decode(s))
	}
}

// P5.1: long strings of beginnings and of references are decoded in reasonable time.
func TestDecodeOfLongStrings(t *testing.T) {
	const size = 1 << 18
	for _, part := range []string{"&", "&#", "&#x", "&a", "&amp=", "&nosuch;"} {
		s := strings.Repeat(part, size)
		decodes(t, s, s)
	}
	decodes(t, strings.Repeat("&lt;", size), strings.Repeat("<", size))
	decodes(t, "&"+strings.Repeat("a", size), "&"+strings.Repeat("a", size))
}

// P5.1: Escape and EscapeAttr replace exactly their characters, for each byte.
func TestEscapeOfEachByte(t *testing.T) {
	inText := map[byte]string{'&': "&amp;", '<': "&lt;", '>': "&gt;", '\r': "&#13;"}
	inValue := map[byte]string{'&': "&amp;", '"': "&quot;", '\r': "&#13;"}
	for c := range 256 {
		for _, around := range []string{"", "a", "\xE2", "€"} {
			escapes(t, "Escape", entity.Escape, inText, around, byte(c))
			escapes(t, "EscapeAttr", entity.EscapeAttr, inValue, around, byte(c))
		}
	}
}

func escapes(t *testing.T, name string, escape func(s string) string, replaced map[byte]string, around string, c byte) {
	t.Helper()
	want, ok := replaced[c]
	if !ok {
		want = string([]byte{c})
	}
	s := around + string([]byte{c, c}) + around
	if got := escape(s); got != around+want+want+around {
		t.Errorf("%s(%q) is %q and not %q", name, s, got, around+want+want+around)
	}
}

// P5.1: what is escaped already is escaped once more.
func TestEscapeOfReferences(t *testing.T) {
	for _, c := range []struct{ s, text, value string }{
		{"", "", ""},
		{"a", "a", "a"},
		{"&lt;&#13;", "&amp;lt;&amp;#13;", "&amp;lt;&amp;#13;"},
		{"<a b=\"c\">&\r\n", "&lt;a b=\"c\"&gt;&amp;&#13;\n", "<a b=&quot;c&quot;>&amp;&#13;\n"},
		{"&quot;'", "&amp;quot;'", "&amp;quot;'"},
	} {
		if got := entity.Escape(c.s); got != c.text {
			t.Errorf("Escape(%q) is %q and not %q", c.s, got, c.text)
		}
		if got := entity.EscapeAttr(c.s); got != c.value {
			t.Errorf("EscapeAttr(%q) is %q and not %q", c.s, got, c.value)
		}
	}
}

// P5.2: Decode undoes Escape and EscapeAttr, whose results contain nothing that would end a text or a value.
func TestDecodeUndoesEscape(t *testing.T) {
	next := random()
	list := []string{"", "&", "<>", "\"\"", "\r\n\r", "&amp;", "&lt", "&#13;", "\xFF&\xE2", "&&lt;<>\"\r;"}
	for range 10000 {
		list = append(list, randomString(next, 12))
	}
	for _, s := range list {
		text, value := entity.Escape(s), entity.EscapeAttr(s)
		decodes(t, text, s)
		decodes(t, value, s)
		if strings.ContainsAny(text, "<>\r") {
			t.Errorf("Escape(%q) is %q", s, text)
		}
		if strings.ContainsAny(value, "\"\r") {
			t.Errorf("EscapeAttr(%q) is %q", s, value)
		}
	}
}

// P5.3: a string without & is its own Decode.
func TestDecodeOfStringsWithoutAmpersand(t *testing.T) {
	next := random()
	list := []string{"", "lt;", "#65;", "amp;lt;", "\x00", "\xFF\xFE", "\r\n\t", "é€\U0001F600", "<a href=\"b\">;"}
	for range 10000 {
		list = append(list, strings.ReplaceAll(randomString(next, 12), "&", ""))
	}
	for _, s := range list {
		decodes(t, s, s)
	}
}

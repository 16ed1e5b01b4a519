package codec_test

import (
	"bytes"
	"hash/crc32"
	"math"
	"strings"
	"testing"

	"knapsack/api"
	"knapsack/codec"
)

// kind names one of the methods with which a value is read.
type kind int

const (
	number kind = iota
	integer
	truth
	text
	count
	kinds
)

// most is the limit with which counts are read, unless a test is about it.
const most = math.MaxInt

// value is one value of any kind.
type value struct {
	kind    kind
	number  uint64
	integer int64
	truth   bool
	text    string
	count   int
}

func write(w *codec.Writer, v value) {
	switch v.kind {
	case number:
		w.Uint(v.number)
	case integer:
		w.Int(v.integer)
	case truth:
		w.Bool(v.truth)
	case text:
		w.String(v.text)
	case count:
		w.Count(v.count)
	}
}

func read(r *codec.Reader, k kind) value {
	v := value{kind: k}
	switch k {
	case number:
		v.number = r.Uint()
	case integer:
		v.integer = r.Int()
	case truth:
		v.truth = r.Bool()
	case text:
		v.text = r.String()
	case count:
		v.count = r.Count(most)
	}
	return v
}

// encoded lists values and their encodings; the long numbers are at the edges of one more digit, and of 64 bits.
func encoded() []struct {
	value value
	bytes string
} {
	return []struct {
		value value
		bytes string
	}{
		{value{kind: number, number: 0}, "\x00"},
		{value{kind: number, number: 1}, "\x01"},
		{value{kind: number, number: 127}, "\x7f"},
		{value{kind: number, number: 128}, "\x80\x01"},
		{value{kind: number, number: 300}, "\xac\x02"},
		{value{kind: number, number: 16383}, "\xff\x7f"},
		{value{kind: number, number: 16384}, "\x80\x80\x01"},
		{value{kind: number, number: 1<<63 - 1}, "\xff\xff\xff\xff\xff\xff\xff\xff\x7f"},
		{value{kind: number, number: 1 << 63}, "\x80\x80\x80\x80\x80\x80\x80\x80\x80\x01"},
		{value{kind: number, number: math.MaxUint64}, "\xff\xff\xff\xff\xff\xff\xff\xff\xff\x01"},
		{value{kind: integer, integer: 0}, "\x00"},
		{value{kind: integer, integer: -1}, "\x01"},
		{value{kind: integer, integer: 1}, "\x02"},
		{value{kind: integer, integer: -3}, "\x05"},
		{value{kind: integer, integer: 63}, "\x7e"},
		{value{kind: integer, integer: -64}, "\x7f"},
		{value{kind: integer, integer: 64}, "\x80\x01"},
		{value{kind: integer, integer: -65}, "\x81\x01"},
		{value{kind: integer, integer: math.MaxInt64}, "\xfe\xff\xff\xff\xff\xff\xff\xff\xff\x01"},
		{value{kind: integer, integer: math.MinInt64}, "\xff\xff\xff\xff\xff\xff\xff\xff\xff\x01"},
		{value{kind: truth, truth: false}, "\x00"},
		{value{kind: truth, truth: true}, "\x01"},
		{value{kind: text, text: ""}, "\x00"},
		{value{kind: text, text: "ab"}, "\x02ab"},
		{value{kind: text, text: "\x00\xff\n"}, "\x03\x00\xff\n"},
		{value{kind: text, text: strings.Repeat("x", 127)}, "\x7f" + strings.Repeat("x", 127)},
		{value{kind: text, text: strings.Repeat("x", 128)}, "\x80\x01" + strings.Repeat("x", 128)},
		{value{kind: count, count: 0}, "\x00"},
		{value{kind: count, count: 127}, "\x7f"},
		{value{kind: count, count: 128}, "\x80\x01"},
		{value{kind: count, count: math.MaxInt}, "\xff\xff\xff\xff\xff\xff\xff\xff\x7f"},
	}
}

// P1.1: a writer appends the encoding of each value behind what it has.
func TestWriterAppendsEncodings(t *testing.T) {
	for _, c := range encoded() {
		w := codec.Writer{Data: []byte("before")}
		write(&w, c.value)
		if string(w.Data) != "before"+c.bytes {
			t.Errorf("%#v is written as %q, want %q", c.value, w.Data[6:], c.bytes)
		}
	}
}

// P1.1: a negative count is written as 0.
func TestWriterCountsNegativeAsZero(t *testing.T) {
	for _, n := range []int{-1, -5, math.MinInt} {
		var w codec.Writer
		w.Count(n)
		if string(w.Data) != "\x00" {
			t.Errorf("Count(%d) is written as %q", n, w.Data)
		}
	}
}

// P1.1: a reader returns the value that begins at At, and moves At behind it, whatever comes before and after.
func TestReaderReturnsValues(t *testing.T) {
	for _, c := range encoded() {
		r := codec.Reader{Data: "\x80" + c.bytes + "\x80", At: 1}
		if got := read(&r, c.value.kind); got != c.value {
			t.Errorf("%q is read as %#v, want %#v", c.bytes, got, c.value)
		}
		if r.At != 1+len(c.bytes) || r.Err != api.OK {
			t.Errorf("after %q: at %d, error %d", c.bytes, r.At, r.Err)
		}
	}
}

// refuses reads a value of a kind at an offset, and expects a zero value, an error, and At where it was.
func refuses(t *testing.T, k kind, data string, at int, want api.Errno) {
	t.Helper()
	r := codec.Reader{Data: data, At: at}
	if got := read(&r, k); got != (value{kind: k}) || r.Err != want || r.At != at || r.Data != data {
		t.Errorf("kind %d of %q at %d: %#v, error %d, at %d", k, data, at, got, r.Err, r.At)
	}
}

// P1.1: whatever is not the encoding of a number is refused by each method that reads one.
func TestReaderRefusesNumbers(t *testing.T) {
	nines := strings.Repeat("\xff", 9)
	bad := []string{
		"", "\x80", "\xff\xff", nines, // ends too early
		"\x80\x00", "\xff\x00", "\x80\x80\x00", nines + "\x00", // the last digit of several is 0
		nines + "\x02", nines + "\x7f", nines + "\x81\x00", nines + "\x80\x01", nines + "\xff\x01", // 2^64 or more
		strings.Repeat("\x80", 9) + "\x02", strings.Repeat("\x80", 10) + "\x01",
		strings.Repeat("\x80", 80) + "\x01", strings.Repeat("\x80", 64) + "\x00",
	}
	for _, s := range bad {
		for _, k := range []kind{number, integer, text, count} {
			refuses(t, k, s, 0, api.ErrForm)
			refuses(t, k, "\x01"+s, 1, api.ErrForm)
		}
	}
}

// P1.1: only the bytes 0 and 1 are truth values.
func TestReaderRefusesTruthValues(t *testing.T) {
	refuses(t, truth, "", 0, api.ErrForm)
	refuses(t, truth, "\x01", 1, api.ErrForm)
	for b := 2; b < 256; b++ {
		refuses(t, truth, string([]byte{byte(b), 0}), 0, api.ErrForm)
	}
}

// P1.1: a string that is shorter than its length says is refused, however great that length is.
func TestReaderRefusesShortStrings(t *testing.T) {
	nines := strings.Repeat("\xff", 9)
	for _, s := range []string{"\x01", "\x03ab", "\x80\x01" + strings.Repeat("x", 127), nines[:8] + "\x7fab", nines + "\x01ab"} {
		refuses(t, text, s, 0, api.ErrForm)
		refuses(t, text, "\x01"+s, 1, api.ErrForm)
	}
}

// P1.1: a reader outside of its data reads as at the end of it.
func TestReaderOutsideOfItsData(t *testing.T) {
	for _, at := range []int{-1, math.MinInt, 3, math.MaxInt} {
		for k := range kinds {
			refuses(t, k, "\x00\x00", at, api.ErrForm)
		}
		r := codec.Reader{Data: "\x00\x00", At: at}
		if e := r.Done(); e != api.ErrForm || r.Err != api.OK || r.At != at {
			t.Errorf("Done at %d: %d, error %d, at %d", at, e, r.Err, r.At)
		}
	}
}

// P1.1: a count is read up to its limit; a negative limit is 0.
func TestReaderCountLimit(t *testing.T) {
	cases := []struct {
		data string
		most int
		want int
		err  api.Errno
	}{
		{"\x09", 9, 9, api.OK},
		{"\x0a", 9, 0, api.ErrLimit},
		{"\x00", 0, 0, api.OK},
		{"\x01", 0, 0, api.ErrLimit},
		{"\x00", -1, 0, api.OK},
		{"\x01", -1, 0, api.ErrLimit},
		{"\x01", math.MinInt, 0, api.ErrLimit},
		{"\x80\x01", 128, 128, api.OK},
		{"\x80\x01", 127, 0, api.ErrLimit},
		{strings.Repeat("\x80", 9) + "\x01", math.MaxInt, 0, api.ErrLimit},
		{strings.Repeat("\xff", 9) + "\x01", math.MaxInt, 0, api.ErrLimit},
		{"\x80\x00", 0, 0, api.ErrForm},
		{"\x80", 0, 0, api.ErrForm},
	}
	for _, c := range cases {
		r := codec.Reader{Data: c.data}
		at := 0
		if c.err == api.OK {
			at = len(c.data)
		}
		if n := r.Count(c.most); n != c.want || r.Err != c.err || r.At != at {
			t.Errorf("Count(%d) of %q: %d, error %d, at %d", c.most, c.data, n, r.Err, r.At)
		}
	}
}

// P1.1: after an error, every method returns a zero value and changes nothing, not even to another error.
func TestReaderAfterAnError(t *testing.T) {
	for _, e := range []api.Errno{api.ErrForm, api.ErrLimit, api.ErrSum, -1} {
		for k := range kinds {
			for _, at := range []int{0, 1, 2, 9} {
				start := codec.Reader{Data: "\x01\x01", At: at, Err: e}
				r := start
				if got := read(&r, k); got != (value{kind: k}) || r != start || r.Done() != e {
					t.Errorf("kind %d after error %d: %#v, reader %#v", k, e, got, r)
				}
			}
		}
		r := codec.Reader{Data: "\x05", Err: e}
		if n := r.Count(0); n != 0 || r.Err != e {
			t.Errorf("Count after error %d: %d, error %d", e, n, r.Err)
		}
	}
}

// P1.1: Done reports the error, or bytes that are left, and changes nothing.
func TestReaderDone(t *testing.T) {
	cases := []struct {
		reader codec.Reader
		want   api.Errno
	}{
		{codec.Reader{}, api.OK},
		{codec.Reader{Data: "ab", At: 2}, api.OK},
		{codec.Reader{Data: "ab", At: 1}, api.ErrForm},
		{codec.Reader{Data: "ab"}, api.ErrForm},
		{codec.Reader{Data: "ab", Err: api.ErrLimit}, api.ErrLimit},
		{codec.Reader{Data: "ab", At: 2, Err: api.ErrLimit}, api.ErrLimit},
		{codec.Reader{Data: "ab", At: 3, Err: api.ErrSum}, api.ErrSum},
	}
	for _, c := range cases {
		r := c.reader
		if e := r.Done(); e != c.want || r != c.reader {
			t.Errorf("Done of %#v: %d, want %d; reader %#v", c.reader, e, c.want, r)
		}
	}
}

// random returns a function that gives the same numbers in each run.
func random() func() uint64 {
	state := uint64(1)
	return func() uint64 {
		state = state*6364136223846793005 + 1442695040888963407
		return state ^ state>>29
	}
}

// randomString returns a string of up to 300 bytes.
func randomString(next func() uint64) string {
	b := make([]byte, next()%300)
	for i := range b {
		b[i] = byte(next() >> 8)
	}
	return string(b)
}

// randomValue returns a value of any kind and size.
func randomValue(next func() uint64) value {
	size := next() % 64
	switch k := kind(next() % uint64(kinds)); k {
	case number:
		return value{kind: k, number: next() >> size}
	case integer:
		return value{kind: k, integer: int64(next()) >> size}
	case truth:
		return value{kind: k, truth: size%2 == 0}
	case text:
		return value{kind: k, text: randomString(next)}
	default:
		return value{kind: k, count: int(next() >> 1 >> size)}
	}
}

// P1.2: a sequence of values is read as it was written, and then nothing is left.
func TestWhatWasWrittenIsRead(t *testing.T) {
	next := random()
	for range 200 {
		var values []value
		var w codec.Writer
		for range next() % 50 {
			v := randomValue(next)
			values = append(values, v)
			write(&w, v)
		}
		r := codec.Reader{Data: string(w.Data)}
		for i, v := range values {
			if got := read(&r, v.kind); got != v {
				t.Fatalf("value %d is read as %#v, want %#v", i, got, v)
			}
		}
		if e := r.Done(); e != api.OK {
			t.Fatalf("Done: %d at %d of %d", e, r.At, len(r.Data))
		}
	}
}

// rewrites reads one value from s and, if there is one, expects to write the same bytes again.
func rewrites(t *testing.T, k kind, s string) {
	t.Helper()
	r := codec.Reader{Data: s}
	v := read(&r, k)
	if r.Err != api.OK {
		return
	}
	var w codec.Writer
	write(&w, v)
	if string(w.Data) != s[:r.At] {
		t.Fatalf("kind %d: %q is read as %#v, which is written as %q", k, s[:r.At], v, w.Data)
	}
}

// P1.2: whatever is read without an error is written as the same bytes: all strings of up to two bytes, and longer ones around the edges.
func TestWhatIsReadIsWrittenAgain(t *testing.T) {
	next := random()
	for k := range kinds {
		rewrites(t, k, "")
		for a := range 256 {
			rewrites(t, k, string([]byte{byte(a)}))
			for b := range 256 {
				rewrites(t, k, string([]byte{byte(a), byte(b)}))
			}
		}
		for range 20000 {
			long := make([]byte, next()%12)
			for i := range long {
				long[i] = byte(next()>>8) | 128
			}
			rewrites(t, k, string(append(long, byte(next()%8), byte(next()))))
		}
	}
}

// P1.1: the checksum is CRC-32.
func TestSum(t *testing.T) {
	if n := codec.Sum("123456789"); n != 0xCBF43926 {
		t.Errorf("Sum of 123456789: %08x", n)
	}
	next := random()
	for _, s := range []string{"", "\x00", "\xff", strings.Repeat("\x00", 4), strings.Repeat("\xff", 4), strings.Repeat("ab", 5000)} {
		sumsTo(t, s)
	}
	for range 300 {
		sumsTo(t, randomString(next))
	}
}

func sumsTo(t *testing.T, s string) {
	t.Helper()
	if n, want := codec.Sum(s), crc32.ChecksumIEEE([]byte(s)); n != want {
		t.Errorf("Sum of %q: %08x, want %08x", s, n, want)
	}
}

// P1.1: a sealed string is followed by its checksum, the lowest byte first, and Open takes that off.
func TestSealAndOpen(t *testing.T) {
	if s := codec.Seal("123456789"); s != "123456789\x26\x39\xf4\xcb" {
		t.Errorf("Seal of 123456789: %q", s)
	}
	if s := codec.Seal(""); s != "\x00\x00\x00\x00" {
		t.Errorf("Seal of nothing: %q", s)
	}
	next := random()
	for range 100 {
		s := randomString(next)
		if u, e := codec.Open(codec.Seal(s)); u != s || e != api.OK {
			t.Errorf("Open of the sealed %q: %q, %d", s, u, e)
		}
		if u, e := codec.Open(codec.Seal(codec.Seal(s))); u != codec.Seal(s) || e != api.OK {
			t.Errorf("Open of %q, sealed twice: %q, %d", s, u, e)
		}
	}
}

// P1.1: a string without room for a checksum is malformed, and any other one without the right checksum has a wrong one.
func TestOpenRefuses(t *testing.T) {
	cases := []struct {
		s    string
		want api.Errno
	}{
		{"", api.ErrForm}, {"a", api.ErrForm}, {"abc", api.ErrForm}, {"\x00\x00\x00", api.ErrForm},
		{"abcd", api.ErrSum}, {"\x00\x00\x00\x01", api.ErrSum}, {"\xff\xff\xff\xff", api.ErrSum},
		{"123456789\xcb\xf4\x39\x26", api.ErrSum}, {"123456788\x26\x39\xf4\xcb", api.ErrSum},
		{"123456789\x26\x39\xf4\xcb\x00", api.ErrSum}, {"123456789\x26\x39\xf4", api.ErrSum},
	}
	for _, c := range cases {
		if u, e := codec.Open(c.s); u != "" || e != c.want {
			t.Errorf("Open of %q: %q, %d, want %d", c.s, u, e, c.want)
		}
	}
}

// P1.3: each byte of a sealed string is changed to each other value, the bytes of the checksum too.
func TestChangedStringsAreNotOpened(t *testing.T) {
	for _, content := range []string{"", "a", "\x00\x00\x00\x00", "123456789", strings.Repeat("knapsack ", 20)} {
		sealed := []byte(codec.Seal(content))
		for at := range sealed {
			changed := bytes.Clone(sealed)
			for range 255 {
				changed[at]++
				if u, e := codec.Open(string(changed)); u != "" || e != api.ErrSum {
					t.Fatalf("%q with byte %d changed to %d: %q, %d", content, at, changed[at], u, e)
				}
			}
		}
	}
}

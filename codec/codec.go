// Package codec is layer 1: see shared/doc/01-codec.md.
package codec

import "knapsack/api"

const (
	more       = 128        // added to each digit of a number that is not its last one
	sumBytes   = 4          // a checksum at the end of a sealed string
	polynomial = 0xEDB88320 // of CRC-32, its lowest bit first
)

// Writer collects encoded values in Data.
type Writer struct{ Data []byte }

// Uint appends a number.
func (w *Writer) Uint(n uint64) {
	for n >= more {
		w.Data = append(w.Data, byte(n)|more)
		n >>= 7
	}
	w.Data = append(w.Data, byte(n))
}

// Int appends an integer.
func (w *Writer) Int(n int64) {
	if n >= 0 {
		w.Uint(2 * uint64(n))
		return
	}
	// -2n - 1, in an order in which nothing overflows.
	w.Uint(2*uint64(-(n+1)) + 1)
}

// Bool appends a truth value.
func (w *Writer) Bool(b bool) {
	if b {
		w.Data = append(w.Data, 1)
		return
	}
	w.Data = append(w.Data, 0)
}

// String appends a string with its length.
func (w *Writer) String(s string) {
	w.Count(len(s))
	w.Data = append(w.Data, s...)
}

// Count appends the length of a list; a negative one counts as 0.
func (w *Writer) Count(n int) {
	w.Uint(uint64(max(n, 0)))
}

// Reader reads encoded values from Data, from At on. After an error all results are zero values.
type Reader struct {
	Data string
	At   int
	Err  api.Errno
}

// rest returns the bytes that are not read yet. A reader outside of its data has none, so At is used as an offset only if it is one.
func (r *Reader) rest() string {
	if r.At < 0 || r.At > len(r.Data) {
		return ""
	}
	return r.Data[r.At:]
}

// number decodes the number that s begins with, and returns how many bytes it takes: 0 if there is none.
func number(s string) (uint64, int) {
	var n uint64
	for i := 0; i < len(s); i++ {
		digit := uint64(s[i] % more)
		place := digit << (7 * i)
		// A digit that loses bits on the way to its place belongs to a number of 2^64 or more.
		if place>>(7*i) != digit {
			return 0, 0
		}
		n |= place
		if s[i] >= more {
			continue
		}
		if digit == 0 && i > 0 {
			return 0, 0
		}
		return n, i + 1
	}
	return 0, 0
}

// Uint reads a number.
func (r *Reader) Uint() uint64 {
	if r.Err != api.OK {
		return 0
	}
	n, size := number(r.rest())
	if size == 0 {
		r.Err = api.ErrForm
		return 0
	}
	r.At += size
	return n
}

// Int reads an integer.
func (r *Reader) Int() int64 {
	n := r.Uint()
	half := int64(n / 2)
	if n%2 == 1 {
		return -half - 1
	}
	return half
}

// Bool reads a truth value.
func (r *Reader) Bool() bool {
	if r.Err != api.OK {
		return false
	}
	rest := r.rest()
	if rest == "" || rest[0] > 1 {
		r.Err = api.ErrForm
		return false
	}
	r.At++
	return rest[0] == 1
}

// String reads a string.
func (r *Reader) String() string {
	if r.Err != api.OK {
		return ""
	}
	rest := r.rest()
	length, size := number(rest)
	// The lengths are compared as numbers: one of 2^63 or more would be a negative int.
	if size == 0 || length > uint64(len(rest)-size) {
		r.Err = api.ErrForm
		return ""
	}
	end := size + int(length)
	r.At += end
	return rest[size:end]
}

// Count reads the length of a list: ErrLimit if it is above most.
func (r *Reader) Count(most int) int {
	if r.Err != api.OK {
		return 0
	}
	n, size := number(r.rest())
	if size == 0 {
		r.Err = api.ErrForm
		return 0
	}
	if n > uint64(max(most, 0)) {
		r.Err = api.ErrLimit
		return 0
	}
	r.At += size
	return int(n)
}

// Done returns the error, ErrForm if bytes are left, or OK.
func (r *Reader) Done() api.Errno {
	if r.Err != api.OK {
		return r.Err
	}
	if r.At != len(r.Data) {
		return api.ErrForm
	}
	return api.OK
}

// Sum returns the checksum of a string (CRC-32).
func Sum(s string) uint32 {
	register := ^uint32(0)
	for i := 0; i < len(s); i++ {
		register ^= uint32(s[i])
		for range 8 {
			// The bit that is shifted out becomes a mask of all ones or all zeros: a branch on it would be mispredicted half of the time, and whole letters are summed.
			mask := -(register & 1)
			register = register>>1 ^ polynomial&mask
		}
	}
	return ^register
}

// sealOf returns what Seal appends to s.
func sealOf(s string) string {
	n := Sum(s)
	return string([]byte{byte(n), byte(n >> 8), byte(n >> 16), byte(n >> 24)})
}

// Seal returns the string followed by its checksum.
func Seal(s string) string { return s + sealOf(s) }

// Open returns the string that Seal made s from: ErrForm if s is too short, ErrSum if the checksum is wrong.
func Open(s string) (string, api.Errno) {
	if len(s) < sumBytes {
		return "", api.ErrForm
	}
	content := s[:len(s)-sumBytes]
	if s[len(content):] != sealOf(content) {
		return "", api.ErrSum
	}
	return content, api.OK
}

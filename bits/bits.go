// Package bits: sums, numbers in bytes: see doc/01-bits.md.
package bits

import (
	"spillway/api"
)

const (
	polynomial  = 0xEDB88320
	widest      = 8 // bytes of a number
	lengthWidth = 2 // bytes of a text's length
	longest     = 1<<(8*lengthWidth) - 1
)

// Sum tells whether bytes are still what they were.
func Sum(b []byte) uint32 {
	register := ^uint32(0)
	for _, c := range b {
		register = shiftOut(register ^ uint32(c))
	}
	return ^register
}

func shiftOut(register uint32) uint32 {
	for range 8 {
		went := register & 1
		register >>= 1
		if went == 1 {
			register ^= polynomial
		}
	}
	return register
}

// Put lays the lowest bytes of n behind b, the lowest first.
func Put(b []byte, n uint64, bytes int) []byte {
	return Join(b, lowest(n, held(bytes)))
}

// Get reads what Put laid; beside it, what is behind the number.
func Get(b []byte, bytes int) (uint64, []byte, api.Errno) {
	width := held(bytes)
	if len(b) < width {
		return 0, Join(b), api.ErrShort
	}
	return number(b[:width]), Join(b[width:]), api.OK
}

// Text lays s behind b, its length ahead of it.
func Text(b []byte, s string) []byte {
	s = s[:min(len(s), longest)]
	return Join(b, lowest(uint64(len(s)), lengthWidth), []byte(s))
}

// GetText reads what Text laid; beside it, what is behind the text.
func GetText(b []byte, most int) (string, []byte, api.Errno) {
	if len(b) < lengthWidth {
		return "", Join(b), api.ErrShort
	}
	length, behind := int(number(b[:lengthWidth])), b[lengthWidth:]
	// A length that is refused is so whether or not its bytes are there.
	if length > most {
		return "", Join(b), api.ErrLong
	}
	if length > len(behind) {
		return "", Join(b), api.ErrShort
	}
	return string(behind[:length]), Join(behind[length:]), api.OK
}

// Join lays pieces one behind the other, always in memory of its own: all that this package answers comes through it.
func Join(l ...[]byte) []byte {
	length := 0
	for _, piece := range l {
		length += len(piece)
	}
	all := make([]byte, 0, length)
	for _, piece := range l {
		all = append(all, piece...)
	}
	return all
}

func held(bytes int) int {
	return min(max(bytes, 0), widest)
}

func lowest(n uint64, width int) []byte {
	b := make([]byte, width)
	for i := range b {
		b[i] = byte(n >> (8 * i))
	}
	return b
}

func number(b []byte) uint64 {
	n := uint64(0)
	for i, c := range b {
		n |= uint64(c) << (8 * i)
	}
	return n
}

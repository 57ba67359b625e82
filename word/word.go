// Package word is layer 1: words, lines and bytes: see shared/doc/01-word.md.
package word

import "steadfast/api"

const (
	wordBits  = 64
	wordBytes = 8
	byteBits  = 8
)

// Field is the bits of w from at on, width of them, moved down to the bit 0; 0, if that is no field.
func Field(w uint64, at, width int) uint64 {
	if !isField(at, width) {
		return 0
	}
	return w >> uint(at) & lowest(width)
}

// With is w with v in the field at at of width.
func With(w uint64, at, width int, v uint64) (uint64, api.Errno) {
	if !isField(at, width) {
		return 0, api.ErrArg
	}
	mask := lowest(width)
	if v > mask {
		return 0, api.ErrLong
	}
	return w&^(mask<<uint(at)) | v<<uint(at), api.OK
}

// Bytes are the words of l one behind the other, of each the lowest byte first.
func Bytes(l api.Line) [64]byte {
	var b [64]byte
	for i := range api.Words {
		for j := range wordBytes {
			b[i*wordBytes+j] = byte(l[i] >> uint(j*byteBits))
		}
	}
	return b
}

// OfBytes is the line that Bytes makes b of.
func OfBytes(b [64]byte) api.Line {
	var l api.Line
	for i := range api.Words {
		for j := range wordBytes {
			l[i] |= uint64(b[i*wordBytes+j]) << uint(j*byteBits)
		}
	}
	return l
}

// Number is w as a number, if it is at most most.
func Number(w uint64, most int) (int, api.Errno) {
	// A most below 0 would turn into a great word.
	if most < 0 || w > uint64(most) {
		return 0, api.ErrLong
	}
	return int(w), api.OK
}

// isField takes width from 64 instead of adding it to at, as the sum may wrap round.
func isField(at, width int) bool {
	return at >= 0 && width >= 1 && width <= wordBits && at <= wordBits-width
}

// lowest is the word whose lowest width bits are 1; width is that of a field.
func lowest(width int) uint64 {
	return ^uint64(0) >> uint(wordBits-width)
}

package word_test

import (
	"math"
	"testing"

	"steadfast/api"
	"steadfast/word"
)

// someWords have single bits, runs, and patterns in which every byte is another one.
func someWords() []uint64 {
	return []uint64{
		0, 1, 2, 0xabcd, 0x0102030405060708, 0x8070605040302010, 0xdeadbeefcafef00d,
		1 << 31, 1 << 32, 1<<32 - 1, 1 << 62, 1 << 63, 1<<63 - 1, 1<<63 | 1,
		0x5555555555555555, 0xaaaaaaaaaaaaaaaa, math.MaxUint64 - 1, math.MaxUint64,
	}
}

// someLines have words, and bytes, that are all others.
func someLines() []api.Line {
	lines := []api.Line{{}, {0x0102030405060708, 1, 7: 1 << 63}}
	words := someWords()
	for i := range words {
		var l api.Line
		for j := range l {
			l[j] = words[(i+j)%len(words)]
		}
		lines = append(lines, l)
	}
	var rising api.Line
	for i := range rising {
		rising[i] = 0x0706050403020100 + uint64(i)*0x0808080808080808
	}
	return append(lines, rising)
}

// noFields are what the document says is no field.
func noFields() [][2]int {
	return [][2]int{
		{-1, 1}, {-1, 2}, {-1, 64}, {-1, 65}, {-64, 64}, {-64, 128}, {math.MinInt, 1}, {math.MinInt, 64}, {math.MinInt, math.MinInt},
		{0, 0}, {5, 0}, {63, 0}, {64, 0}, {0, -1}, {10, -1}, {64, -1}, {65, -1}, {0, math.MinInt}, {64, math.MinInt},
		{0, 65}, {-1, 66}, {1, 64}, {60, 8}, {63, 2}, {64, 1}, {65, 1}, {0, 128}, {0, math.MaxInt}, {1, math.MaxInt},
		{1 << 32, 1}, {1<<32 + 4, 8}, {1 << 62, 1 << 62}, {math.MaxInt, 1}, {math.MaxInt, 64}, {math.MaxInt, 0}, {math.MaxInt - 63, 64}, {math.MaxInt, math.MaxInt},
		{-math.MaxInt, math.MaxInt}, {math.MaxInt, math.MinInt}, {math.MinInt, math.MaxInt},
	}
}

// eachField calls f with every field there is.
func eachField(f func(at, width int)) {
	for width := 1; width <= 64; width++ {
		for at := 0; at+width <= 64; at++ {
			f(at, width)
		}
	}
}

func bit(w uint64, i int) bool { return w>>uint(i)&1 == 1 }

// slowField reads bit by bit, so that it shares no mask with what is tested.
func slowField(w uint64, at, width int) uint64 {
	var v uint64
	for i := range width {
		if bit(w, at+i) {
			v += 1 << uint(i)
		}
	}
	return v
}

// slowWith sets bit by bit, likewise.
func slowWith(w uint64, at, width int, v uint64) uint64 {
	var out uint64
	for i := range 64 {
		from, j := w, i
		if i >= at && i < at+width {
			from, j = v, i-at
		}
		if bit(from, j) {
			out += 1 << uint(i)
		}
	}
	return out
}

// fits are words of at most width bits, the greatest among them.
func fits(width int) []uint64 {
	most := uint64(math.MaxUint64)
	if width < 64 {
		most = 1<<uint(width) - 1
	}
	return []uint64{0, 1, most, most - most>>1, 0xdeadbeefcafef00d & most, 0x5555555555555555 & most}
}

// P1.1

func TestFieldExamples(t *testing.T) {
	for _, x := range []struct {
		w         uint64
		at, width int
		want      uint64
	}{
		{0xabcd, 4, 8, 0xbc},
		{7, 60, 8, 0},
		{0xabcd, 0, 4, 0xd},
		{0xabcd, 0, 16, 0xabcd},
		{0xabcd, 12, 52, 0xa},
		{2, 0, 1, 0},
		{2, 1, 1, 1},
		{1 << 63, 63, 1, 1},
		{1<<63 - 1, 63, 1, 0},
		{math.MaxUint64, 0, 64, math.MaxUint64},
		{math.MaxUint64, 0, 63, 1<<63 - 1},
		{math.MaxUint64, 1, 63, 1<<63 - 1},
		{math.MaxUint64, 56, 8, 0xff},
	} {
		if got := word.Field(x.w, x.at, x.width); got != x.want {
			t.Errorf("Field(%#x, %d, %d) = %#x, want %#x", x.w, x.at, x.width, got, x.want)
		}
	}
}

func TestFieldIsItsBits(t *testing.T) {
	for _, w := range someWords() {
		eachField(func(at, width int) {
			if got, want := word.Field(w, at, width), slowField(w, at, width); got != want {
				t.Errorf("Field(%#x, %d, %d) = %#x, want %#x", w, at, width, got, want)
			}
		})
	}
}

func TestFieldOfNoField(t *testing.T) {
	for _, w := range someWords() {
		for _, f := range noFields() {
			if got := word.Field(w, f[0], f[1]); got != 0 {
				t.Errorf("Field(%#x, %d, %d) = %#x, want 0", w, f[0], f[1], got)
			}
		}
	}
}

func TestWithExamples(t *testing.T) {
	for _, x := range []struct {
		w         uint64
		at, width int
		v, want   uint64
		e         api.Errno
	}{
		{0xabcd, 4, 8, 0x12, 0xa12d, api.OK},
		{0, 0, 4, 16, 0, api.ErrLong},
		{0, 0, 4, 15, 15, api.OK},
		{0, 1, 64, 0, 0, api.ErrArg},
		{0xabcd, 0, 64, 9, 9, api.OK},
		{0xabcd, 0, 64, math.MaxUint64, math.MaxUint64, api.OK},
		{0xabcd, 63, 1, 1, 1<<63 | 0xabcd, api.OK},
		{1<<63 | 0xabcd, 63, 1, 0, 0xabcd, api.OK},
		{0xabcd, 63, 1, 2, 0, api.ErrLong},
		{math.MaxUint64, 0, 1, 0, math.MaxUint64 - 1, api.OK},
		{math.MaxUint64, 0, 63, 0, 1 << 63, api.OK},
		{math.MaxUint64, 0, 63, 1 << 63, 0, api.ErrLong},
		{math.MaxUint64, 1, 63, 1<<63 - 1, math.MaxUint64, api.OK},
	} {
		if got, e := word.With(x.w, x.at, x.width, x.v); got != x.want || e != x.e {
			t.Errorf("With(%#x, %d, %d, %#x) = %#x, %d, want %#x, %d", x.w, x.at, x.width, x.v, got, e, x.want, x.e)
		}
	}
}

func TestWithSetsItsBits(t *testing.T) {
	for _, w := range someWords() {
		eachField(func(at, width int) {
			for _, v := range fits(width) {
				got, e := word.With(w, at, width, v)
				if want := slowWith(w, at, width, v); got != want || e != api.OK {
					t.Errorf("With(%#x, %d, %d, %#x) = %#x, %d, want %#x", w, at, width, v, got, e, want)
				}
			}
		})
	}
}

func TestWithTooLong(t *testing.T) {
	for _, w := range someWords() {
		eachField(func(at, width int) {
			if width == 64 {
				return // each word has at most 64 bits
			}
			for _, v := range []uint64{1 << uint(width), 1<<uint(width) + 1, 1 << 63, math.MaxUint64} {
				if got, e := word.With(w, at, width, v); got != 0 || e != api.ErrLong {
					t.Errorf("With(%#x, %d, %d, %#x) = %#x, %d, want ErrLong", w, at, width, v, got, e)
				}
			}
		})
	}
}

// A v that is too long besides: ErrArg is named first.
func TestWithNoField(t *testing.T) {
	for _, w := range someWords() {
		for _, f := range noFields() {
			for _, v := range []uint64{0, 1, 16, 1 << 63, math.MaxUint64} {
				if got, e := word.With(w, f[0], f[1], v); got != 0 || e != api.ErrArg {
					t.Errorf("With(%#x, %d, %d, %#x) = %#x, %d, want ErrArg", w, f[0], f[1], v, got, e)
				}
			}
		}
	}
}

// P1.2

func TestBytesLowestFirst(t *testing.T) {
	b := word.Bytes(api.Line{0x0102030405060708, 0xf1f2f3f4f5f6f7f8, 7: 0x8000000000000009})
	want := [64]byte{
		8, 7, 6, 5, 4, 3, 2, 1,
		0xf8, 0xf7, 0xf6, 0xf5, 0xf4, 0xf3, 0xf2, 0xf1,
		56: 9, 63: 0x80,
	}
	if b != want {
		t.Errorf("Bytes = %v, want %v", b, want)
	}
	if b := word.Bytes(api.Line{}); b != [64]byte{} {
		t.Errorf("Bytes of noughts = %v", b)
	}
}

func TestEachByteHasItsPlace(t *testing.T) {
	for i := range 64 {
		for j := range 8 {
			var l api.Line
			l[i/8] = 1 << uint(i%8*8+j)
			var b [64]byte
			b[i] = 1 << uint(j)
			if got := word.Bytes(l); got != b {
				t.Errorf("Bytes(%v) = %v, want %v", l, got, b)
			}
			if got := word.OfBytes(b); got != l {
				t.Errorf("OfBytes(%v) = %v, want %v", b, got, l)
			}
		}
	}
}

func TestOfBytes(t *testing.T) {
	var b [64]byte
	for i := range b {
		b[i] = byte(i + 1)
	}
	want := api.Line{
		0x0807060504030201, 0x100f0e0d0c0b0a09, 0x1817161514131211, 0x201f1e1d1c1b1a19,
		0x2827262524232221, 0x302f2e2d2c2b2a29, 0x3837363534333231, 0x403f3e3d3c3b3a39,
	}
	if l := word.OfBytes(b); l != want {
		t.Errorf("OfBytes = %x, want %x", l, want)
	}
}

// P1.3

func TestNumber(t *testing.T) {
	for _, x := range []struct {
		w    uint64
		most int
		want int
		e    api.Errno
	}{
		{5, 4, 0, api.ErrLong},
		{5, 5, 5, api.OK},
		{5, 6, 5, api.OK},
		{0, 0, 0, api.OK},
		{1, 0, 0, api.ErrLong},
		{0, -1, 0, api.ErrLong},
		{5, -1, 0, api.ErrLong},
		{5, -5, 0, api.ErrLong},
		{0, math.MinInt, 0, api.ErrLong},
		{1 << 63, math.MinInt, 0, api.ErrLong},
		{math.MaxUint64, -1, 0, api.ErrLong},
		{math.MaxUint64 - 4, -5, 0, api.ErrLong},
		{math.MaxUint64, math.MaxInt, 0, api.ErrLong},
		{1 << 63, math.MaxInt, 0, api.ErrLong},
		{math.MaxInt, math.MaxInt, math.MaxInt, api.OK},
		{math.MaxInt, math.MaxInt - 1, 0, api.ErrLong},
		{1 << 40, 1 << 40, 1 << 40, api.OK},
		{1<<40 + 1, 1 << 40, 0, api.ErrLong},
		{1<<32 + 5, 5, 0, api.ErrLong},
	} {
		if got, e := word.Number(x.w, x.most); got != x.want || e != x.e {
			t.Errorf("Number(%#x, %d) = %d, %d, want %d, %d", x.w, x.most, got, e, x.want, x.e)
		}
	}
}

// P1.4

func TestFieldOfWith(t *testing.T) {
	for _, w := range someWords() {
		eachField(func(at, width int) {
			for _, v := range fits(width) {
				got, _ := word.With(w, at, width, v)
				if back := word.Field(got, at, width); back != v {
					t.Errorf("Field(With(%#x, %d, %d, %#x)) = %#x", w, at, width, v, back)
				}
			}
		})
	}
}

func TestFieldsApartStay(t *testing.T) {
	w := uint64(0xdeadbeefcafef00d)
	eachField(func(at, width int) {
		for _, v := range fits(width) {
			got, _ := word.With(w, at, width, v)
			eachField(func(at2, width2 int) {
				if at2 < at+width && at < at2+width2 {
					return
				}
				if word.Field(got, at2, width2) != word.Field(w, at2, width2) {
					t.Errorf("With(%#x, %d, %d, %#x) = %#x turns the field at %d of %d", w, at, width, v, got, at2, width2)
				}
			})
		}
	})
}

func TestWithOfField(t *testing.T) {
	for _, w := range someWords() {
		eachField(func(at, width int) {
			if got, e := word.With(w, at, width, word.Field(w, at, width)); got != w || e != api.OK {
				t.Errorf("With of Field(%#x, %d, %d) = %#x, %d", w, at, width, got, e)
			}
		})
	}
}

func TestOfBytesOfBytes(t *testing.T) {
	for _, l := range someLines() {
		if got := word.OfBytes(word.Bytes(l)); got != l {
			t.Errorf("OfBytes of Bytes(%x) = %x", l, got)
		}
	}
}

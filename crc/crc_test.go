package crc_test

import (
	"bytes"
	"encoding/binary"
	"hash/crc32"
	"math"
	"testing"

	"steadfast/api"
	"steadfast/crc"
	"steadfast/word"
)

// rising are n bytes of which neighbours differ, and which do not repeat after 256.
func rising(n int) []byte {
	b := make([]byte, n)
	for i := range b {
		b[i] = byte(i*7 + i>>8)
	}
	return b
}

// someBytes are none, single ones, runs of one value, and mixed ones up to some hundreds.
func someBytes() [][]byte {
	all := [][]byte{nil, {}, []byte("a"), []byte("abc"), []byte("123456789"), []byte("steadfast\n")}
	for c := range 256 {
		all = append(all, []byte{byte(c)})
	}
	for _, n := range []int{1, 2, 3, 4, 5, 7, 8, 55, 56, 57, 63, 64, 65, 1000} {
		all = append(all, rising(n), make([]byte, n), bytes.Repeat([]byte{255}, n), bytes.Repeat([]byte{0x80}, n))
	}
	return all
}

func someLines() []api.Line {
	const full = math.MaxUint64
	lines := []api.Line{
		{}, {1, 2, 3, 4, 5, 6, 7, 8}, {6: 1 << 63}, {7: 1}, {7: 1 << 32}, {7: full},
		{full, full, full, full, full, full, full, full},
		{0x0102030405060708, 0x1112131415161718, 0x2122232425262728, 0x3132333435363738, 0x4142434445464748, 0x5152535455565758, 0x6162636465666768, 0x7172737475767778},
	}
	for i := range api.Words {
		for _, at := range []int{0, 31, 32, 63} {
			var l api.Line
			l[i] = 1 << at
			lines = append(lines, l)
		}
	}
	return lines
}

// sumByHand is the document's rule with nothing of the package's in it.
func sumByHand(b []byte) uint32 {
	register := uint32(0xffffffff)
	for _, c := range b {
		register = register&^255 | register&255 ^ uint32(c)
		for i := 0; i < 8; i++ {
			if register%2 == 1 {
				register = register/2 ^ 0xedb88320
			} else {
				register /= 2
			}
		}
	}
	return 0xffffffff - register
}

// lineSum lays the seven words out without package word.
func lineSum(l api.Line) uint32 {
	var b []byte
	for _, w := range l[:7] {
		b = binary.LittleEndian.AppendUint64(b, w)
	}
	return crc32.ChecksumIEEE(b)
}

// P2.1

func TestSumOfKnownBytes(t *testing.T) {
	for _, c := range []struct {
		b    string
		want uint32
	}{
		{"", 0},
		{"123456789", 0xcbf43926},
		{"a", 0xe8b7be43},
		{"abc", 0x352441c2},
		{"\x00", 0xd202ef8d},
		{"\x01", 0xa505df1b},
		{"\x80", 0x3fba6cad},
		{"\xff", 0xff000000},
		{"\x00\x00\x00\x00", 0x2144df1c},
		{"\xff\xff\xff\xff", 0xffffffff},
		{"The quick brown fox jumps over the lazy dog", 0x414fa339},
	} {
		if got := crc.Sum([]byte(c.b)); got != c.want {
			t.Errorf("Sum(%q) = %x, want %x", c.b, got, c.want)
		}
	}
	if got := crc.Sum(nil); got != 0 {
		t.Errorf("Sum(nil) = %x, want 0", got)
	}
	if got := crc.Sum([]byte{}); got != 0 {
		t.Errorf("Sum of an empty list = %x, want 0", got)
	}
}

func TestSumIsTheRule(t *testing.T) {
	for _, b := range someBytes() {
		want := sumByHand(b)
		if other := crc32.ChecksumIEEE(b); other != want {
			t.Fatalf("the test's own rule says %x of %x, the library %x", want, b, other)
		}
		if got := crc.Sum(b); got != want {
			t.Errorf("Sum(%x) = %x, want %x", b, got, want)
		}
	}
}

func TestSumOfManyBytes(t *testing.T) {
	b := rising(1 << 20)
	if got, want := crc.Sum(b), crc32.ChecksumIEEE(b); got != want {
		t.Errorf("Sum of %d bytes = %x, want %x", len(b), got, want)
	}
}

func TestMoreOfKnownBytes(t *testing.T) {
	if got := crc.More(crc.Sum([]byte("1234")), []byte("56789")); got != 0xcbf43926 {
		t.Errorf("More(Sum(1234), 56789) = %x, want cbf43926", got)
	}
}

func TestMoreWithNothingBehind(t *testing.T) {
	for _, sum := range []uint32{0, 1, 0x80000000, 0xcbf43926, math.MaxUint32} {
		if got := crc.More(sum, nil); got != sum {
			t.Errorf("More(%x, nil) = %x, want it as it was", sum, got)
		}
		if got := crc.More(sum, []byte{}); got != sum {
			t.Errorf("More(%x, empty) = %x, want it as it was", sum, got)
		}
	}
}

func TestMoreFromTheSumOfNone(t *testing.T) {
	for _, b := range someBytes() {
		if got, want := crc.More(0, b), crc32.ChecksumIEEE(b); got != want {
			t.Errorf("More(0, %x) = %x, want %x", b, got, want)
		}
	}
}

func TestMoreFromAnySum(t *testing.T) {
	for _, sum := range []uint32{0, 1, 2, 0x80000000, 0x7fffffff, 0xdeadbeef, 0xff000000, math.MaxUint32} {
		for _, b := range someBytes() {
			if got, want := crc.More(sum, b), crc32.Update(sum, crc32.IEEETable, b); got != want {
				t.Errorf("More(%x, %x) = %x, want %x", sum, b, got, want)
			}
		}
	}
}

// R7

func TestSumsLeaveWhatIsHandedIn(t *testing.T) {
	for _, n := range []int{0, 1, 7, 56, 64} {
		whole := rising(n + 32)
		was := bytes.Clone(whole)
		part := whole[:n]
		first := crc.Sum(part)
		crc.More(first, part)
		if !bytes.Equal(whole, was) {
			t.Errorf("of %d bytes, or of the room behind them, some are others now", n)
		}
		for i := n; i < len(whole); i++ {
			whole[i] ^= 0x5a
		}
		if got := crc.Sum(part); got != first {
			t.Errorf("the room behind %d bytes is in their sum", n)
		}
		if n > 0 {
			part[0] ^= 1
			if crc.Sum(part) == first {
				t.Errorf("the first of %d bytes is another one, the sum is not", n)
			}
			part[0] ^= 1
			if crc.Sum(part) != first {
				t.Errorf("%d bytes are what they were, the sum is not", n)
			}
		}
	}
}

// P2.2

func TestSealOfKnownLines(t *testing.T) {
	for _, c := range []struct {
		l    api.Line
		want uint64
	}{
		{api.Line{}, 0x100000000 + uint64(crc32.ChecksumIEEE(make([]byte, 56)))},
		{api.Line{0x3837363534333231, 0x39}, 0x100000000 + uint64(crc32.ChecksumIEEE(append([]byte("123456789"), make([]byte, 47)...)))},
	} {
		if got := crc.Seal(c.l); got[7] != c.want {
			t.Errorf("Seal(%x)'s last word is %x, want %x", c.l, got[7], c.want)
		}
	}
}

func TestSealSetsTheLastWordAlone(t *testing.T) {
	for _, l := range someLines() {
		was := l
		want := l
		want[7] = 1<<32 + uint64(lineSum(l))
		if got := crc.Seal(l); got != want {
			t.Errorf("Seal(%x) = %x, want %x", l, got, want)
		}
		if l != was {
			t.Errorf("Seal changed %x to %x", was, l)
		}
	}
}

func TestSealDoesNotAskTheLastWord(t *testing.T) {
	for _, l := range someLines() {
		want := crc.Seal(l)
		for _, w := range []uint64{0, 1, 1 << 32, 1 << 63, math.MaxUint64, want[7], ^want[7]} {
			l[7] = w
			if got := crc.Seal(l); got != want {
				t.Errorf("Seal(%x) = %x, want %x", l, got, want)
			}
		}
	}
}

func TestGood(t *testing.T) {
	for _, l := range someLines() {
		s := crc.Seal(l)
		was := s
		if !crc.Good(s) {
			t.Errorf("%x is sealed, and is not good", s)
		}
		if s != was {
			t.Errorf("Good changed %x to %x", was, s)
		}
		if crc.Good(l) {
			t.Errorf("%x is not sealed, and is good", l)
		}
		if crc.Seal(s) != s {
			t.Errorf("%x is another one when it is sealed again", s)
		}
	}
}

func TestNotGoodByTheLastWord(t *testing.T) {
	for _, l := range someLines() {
		sum := uint64(lineSum(l))
		bad := []uint64{
			0, sum, 1 << 32, 2<<32 + sum, 3<<32 + sum, 1<<63 + 1<<32 + sum, 1<<33 + 1<<32 + sum,
			0xffffffff<<32 + sum, 1<<32 + sum + 1, 1<<32 + sum - 1, 1<<32 + sum ^ 0xffffffff, sum<<32 + 1, sum<<32 + sum, math.MaxUint64,
		}
		for _, w := range bad {
			if w == 1<<32+sum {
				continue
			}
			l[7] = w
			if crc.Good(l) {
				t.Errorf("%x is good", l)
			}
		}
		l[7] = 1<<32 + sum
		if !crc.Good(l) {
			t.Errorf("%x is not good", l)
		}
	}
}

// P2.3

func TestMoreOfTwoPartsIsSumOfTheWhole(t *testing.T) {
	for _, b := range someBytes() {
		want := crc.Sum(b)
		for i := range len(b) + 1 {
			if got := crc.More(crc.Sum(b[:i]), b[i:]); got != want {
				t.Errorf("%d and %d of %x: %x, want %x", i, len(b)-i, b, got, want)
			}
		}
	}
}

func TestMoreOfSingleBytesIsSumOfTheWhole(t *testing.T) {
	for _, b := range someBytes() {
		sum := crc.Sum(nil)
		for i := range b {
			sum = crc.More(sum, b[i:i+1])
		}
		if want := crc.Sum(b); sum != want {
			t.Errorf("byte by byte %x has %x, want %x", b, sum, want)
		}
	}
}

func TestTurnedByteTurnsTheSum(t *testing.T) {
	for _, b := range [][]byte{{0}, {255}, []byte("123456789"), rising(56), make([]byte, 64)} {
		want := crc.Sum(b)
		for i := range b {
			for turn := 1; turn < 256; turn++ {
				b[i] ^= byte(turn)
				if crc.Sum(b) == want {
					t.Errorf("%x, the byte %d turned by %x, has the same sum", b, i, turn)
				}
				b[i] ^= byte(turn)
			}
		}
	}
}

func TestTurnedByteOfASealedLineIsNotGood(t *testing.T) {
	for _, l := range someLines() {
		sealed := word.Bytes(crc.Seal(l))
		for i := range sealed {
			for turn := 1; turn < 256; turn++ {
				b := sealed
				b[i] ^= byte(turn)
				if crc.Good(word.OfBytes(b)) {
					t.Errorf("%x, the byte %d turned by %x, is good", sealed, i, turn)
				}
			}
		}
	}
}

func TestNoughtsAreNotGood(t *testing.T) {
	if crc.Good(api.Line{}) {
		t.Error("a line of noughts is good")
	}
	if !crc.Good(crc.Seal(api.Line{})) {
		t.Error("a line of noughts, sealed, is not good")
	}
}

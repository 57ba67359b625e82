package radix_test

import (
	"encoding/binary"
	"hash/crc32"
	"math"
	"math/rand"
	"slices"
	"testing"

	"steadfast/api"
	"steadfast/nvm"
	"steadfast/radix"
)

const (
	full       = math.MaxUint64
	topVersion = 1<<24 - 1
	topLine    = 1023
)

type (
	entries = [7]api.Entry
	numbers = [7]int
)

func entryOf(kind, version, line int) api.Entry {
	return api.Entry{Kind: kind, Version: version, Line: line}
}

// sealed lays seven words out with their sum behind, without the program's own packages.
func sealed(w ...uint64) api.Line {
	var l api.Line
	copy(l[:7], w)
	var b []byte
	for _, x := range l[:7] {
		b = binary.LittleEndian.AppendUint64(b, x)
	}
	l[7] = 1<<32 + uint64(crc32.ChecksumIEEE(b))
	return l
}

// wordOf is the word of an entry, whose parts have no more bits than they may.
func wordOf(x api.Entry) uint64 {
	return uint64(x.Kind) | uint64(x.Version)<<4 | uint64(x.Line)<<28
}

// leafOf is the chapter's line of a leaf's entries.
func leafOf(x entries) api.Line {
	var w [7]uint64
	for i := range x {
		w[i] = wordOf(x[i])
	}
	return sealed(w[:]...)
}

// rootOf is the chapter's line of leaves' lines, whether they may be or not.
func rootOf(n numbers) api.Line {
	var w [7]uint64
	for i := range n {
		w[i] = uint64(n[i]) + 1<<32
	}
	return sealed(w[:]...)
}

// allowed tells whether x may be.
func allowed(x api.Entry) bool {
	if x.Kind == 0 && x.Line != 0 {
		return false
	}
	return x.Kind >= 0 && x.Kind <= 4 && x.Version >= 0 && x.Version <= topVersion && x.Line >= 0 && x.Line <= topLine
}

// partOf are the entries of the leaf k.
func partOf(x radix.Table, k int) entries {
	return entries(x[7*k : 7*k+7])
}

// goodTables are tables whose entries may be: in one and the same table, too, at all their edges.
func goodTables() []radix.Table {
	var none, edges, many, top, apart radix.Table
	pick := []api.Entry{
		entryOf(0, 0, 0), entryOf(0, 1, 0), entryOf(0, topVersion, 0), entryOf(1, 0, 0), entryOf(1, 0, topLine), entryOf(1, topVersion, 0),
		entryOf(4, 0, 0), entryOf(4, topVersion, topLine), entryOf(2, 7, 34), entryOf(3, 1<<16, 512), entryOf(1, 1, 1),
	}
	for i := range many {
		edges[i] = pick[i%len(pick)]
		many[i] = entryOf(1+i%4, 1000*i+i, 40+i)
		top[i] = entryOf(4, topVersion, topLine)
		apart[i] = entryOf(0, i, 0)
	}
	all := []radix.Table{none, edges, many, top, apart}
	for _, i := range []int{0, 6, 7, 8, 24, 41, 42, 48} {
		one := none
		one[i] = entryOf(2, i, 34)
		all = append(all, one)
	}
	return all
}

// badEntries are entries that may not be: by one part alone, and by several.
func badEntries() []api.Entry {
	all := []api.Entry{
		entryOf(0, 0, 1), entryOf(0, 7, topLine), entryOf(0, topVersion, 34), entryOf(-1, -1, -1), entryOf(5, 1<<24, 1024), entryOf(math.MinInt, math.MaxInt, math.MinInt),
	}
	for _, n := range []int{-1, 5, 6, 15, 16, 17, 1<<32 + 1, math.MinInt, math.MaxInt} {
		all = append(all, entryOf(n, 7, 34), entryOf(n, 0, 0))
	}
	for _, n := range []int{-1, 1 << 24, 1<<24 + 1, 1 << 32, math.MinInt, math.MaxInt} {
		all = append(all, entryOf(2, n, 34), entryOf(0, n, 0))
	}
	for _, n := range []int{-1, 1024, 1025, 1 << 16, 1<<16 + 34, 1 << 32, math.MinInt, math.MaxInt} {
		all = append(all, entryOf(2, 7, n), entryOf(0, 7, n))
	}
	return all
}

// badWords are words of no entry.
func badWords() []uint64 {
	all := []uint64{
		full, 5, 15, 1 << 28, 1 << 43, 1 << 44, 1 << 63, 1 << 32, wordOf(entryOf(0, 7, 34)), wordOf(entryOf(0, topVersion, topLine)),
		wordOf(entryOf(1, 2, 1024)), wordOf(entryOf(1, 2, 65535)), wordOf(entryOf(5, 2, 3)), wordOf(entryOf(15, 2, 3)),
	}
	for at := 44; at < 64; at++ {
		all = append(all, wordOf(entryOf(1, 2, 3))|1<<at)
	}
	return all
}

// goodNumbers are leaves' lines that may be: whether two of them are the same is not a root's matter.
func goodNumbers() []numbers {
	all := []numbers{{}, {0, 1, 2, 3, 4, 5, 6}, {20, 21, 22, 23, 24, 25, 26}, {1023, 1022, 512, 511, 1, 0, 34}, {1023, 1023, 1023, 1023, 1023, 1023, 1023}, {63, 63, 63, 63, 63, 63, 63}}
	for k := range 7 {
		for _, n := range []int{0, 1, 1022, 1023} {
			one := numbers{20, 21, 22, 23, 24, 25, 26}
			one[k] = n
			all = append(all, one)
		}
	}
	return all
}

// badNumbers are no line's numbers.
func badNumbers() []int {
	return []int{-1, 1024, -2, 1025, -1023, 1 << 16, 1 << 32, -1 << 32, 1<<32 + 20, 1 << 62, math.MinInt, math.MinInt + 20, math.MaxInt}
}

// makesLeaf asks Leaf, and that noughts stand beside an error.
func makesLeaf(t *testing.T, x radix.Table, k int, want api.Line, e api.Errno) {
	t.Helper()
	if l, got := radix.Leaf(x, k); l != want || got != e {
		t.Errorf("Leaf(%v, %d) = %x, %v, want %x, %v", x, k, l, got, want, e)
	}
}

// readsLeaf asks ReadLeaf, and that none stand beside false.
func readsLeaf(t *testing.T, l api.Line, want entries, ok bool) {
	t.Helper()
	if x, got := radix.ReadLeaf(l); x != want || got != ok {
		t.Errorf("ReadLeaf(%x) = %v, %v, want %v, %v", l, x, got, want, ok)
	}
}

// makesRoot asks Root, and that noughts stand beside an error.
func makesRoot(t *testing.T, n numbers, want api.Line, e api.Errno) {
	t.Helper()
	if l, got := radix.Root(n); l != want || got != e {
		t.Errorf("Root(%v) = %x, %v, want %x, %v", n, l, got, want, e)
	}
}

// readsRoot asks ReadRoot, and that none stand beside false.
func readsRoot(t *testing.T, l api.Line, want numbers, ok bool) {
	t.Helper()
	if n, got := radix.ReadRoot(l); n != want || got != ok {
		t.Errorf("ReadRoot(%x) = %v, %v, want %v, %v", l, n, got, want, ok)
	}
}

// differs asks Differ, both ways round.
func differs(t *testing.T, a, b radix.Table, want ...int) {
	t.Helper()
	if got := radix.Differ(a, b); !slices.Equal(got, want) {
		t.Errorf("Differ(%v, %v) = %v, want %v", a, b, got, want)
	}
	if got := radix.Differ(b, a); !slices.Equal(got, want) {
		t.Errorf("Differ(%v, %v) = %v, want %v", b, a, got, want)
	}
}

// The chapter's examples.

func TestExamples(t *testing.T) {
	var none, one radix.Table
	makesLeaf(t, none, 7, api.Line{}, api.ErrArg)
	makesRoot(t, numbers{1, 2, 3, 4, 5, 6, 1024}, api.Line{}, api.ErrArg)
	readsLeaf(t, api.Line{}, entries{}, false)
	l, e := radix.Leaf(none, 0)
	if e != api.OK {
		t.Errorf("Leaf(none, 0): %v", e)
	}
	readsRoot(t, l, numbers{}, false)
	one[8] = entryOf(1, 0, 30)
	differs(t, none, one, 1)
}

// P9.1

func TestLeafLaysItsEntriesOut(t *testing.T) {
	makesLeaf(t, radix.Table{}, 0, api.Line{7: 1<<32 + uint64(crc32.ChecksumIEEE(make([]byte, 56)))}, api.OK)
	var x radix.Table
	x[0], x[8], x[48] = entryOf(1, 2, 3), entryOf(3, 4, 31), entryOf(0, 7, 0)
	makesLeaf(t, x, 0, sealed(0x0003_000002_1), api.OK)
	makesLeaf(t, x, 1, sealed(0, 0x001f_000004_3), api.OK)
	makesLeaf(t, x, 6, sealed(0, 0, 0, 0, 0, 0, 0x000007_0), api.OK)
	for _, x := range goodTables() {
		for k := range 7 {
			makesLeaf(t, x, k, leafOf(partOf(x, k)), api.OK)
		}
	}
}

func TestLeafOfNoSuchLeaf(t *testing.T) {
	for _, x := range goodTables() {
		makesLeaf(t, x, 0, leafOf(partOf(x, 0)), api.OK)
		makesLeaf(t, x, 6, leafOf(partOf(x, 6)), api.OK)
		for _, k := range []int{-1, 7, -7, 8, 48, 49, 1 << 32, 1 << 62, math.MinInt, math.MinInt / 7, math.MaxInt, math.MaxInt / 7} {
			makesLeaf(t, x, k, api.Line{}, api.ErrArg)
		}
	}
}

// The entry that may not be is in one leaf: the others are as they were.
func TestLeafOfAnEntryThatMayNotBe(t *testing.T) {
	for _, x := range goodTables()[:3] {
		for _, bad := range badEntries() {
			for i := range x {
				y := x
				y[i] = bad
				for k := range 7 {
					if k == i/7 {
						makesLeaf(t, y, k, api.Line{}, api.ErrArg)
					} else {
						makesLeaf(t, y, k, leafOf(partOf(x, k)), api.OK)
					}
				}
			}
		}
	}
}

func TestReadLeafReadsTheEntriesBack(t *testing.T) {
	for _, x := range goodTables() {
		for k := range 7 {
			readsLeaf(t, leafOf(partOf(x, k)), partOf(x, k), true)
		}
	}
}

func TestReadLeafOfNoLeafsLine(t *testing.T) {
	readsLeaf(t, api.Line{}, entries{}, false)
	readsLeaf(t, api.Line{full, full, full, full, full, full, full, full}, entries{}, false)
	for _, x := range goodTables()[:4] {
		for k := range 7 {
			l := leafOf(partOf(x, k))
			for i := range 7 {
				for _, w := range badWords() {
					words := l
					words[i] = w
					readsLeaf(t, sealed(words[:7]...), entries{}, false)
				}
			}
			for _, sum := range []uint64{0, 1 << 32, l[7] - 1<<32, l[7] + 1<<32, l[7] + 1<<63, l[7] + 1, ^l[7], full} {
				other := l
				other[7] = sum
				readsLeaf(t, other, entries{}, false)
			}
		}
	}
}

func TestReadLeafOfOneBitTurned(t *testing.T) {
	for _, x := range goodTables() {
		for k := range 7 {
			for bit := range 512 {
				l := leafOf(partOf(x, k))
				l[bit/64] ^= 1 << (bit % 64)
				readsLeaf(t, l, entries{}, false)
			}
		}
	}
}

// Words that change their places are another leaf's, whose sum is another one.
func TestReadLeafOfWordsInOtherPlaces(t *testing.T) {
	l := leafOf(partOf(goodTables()[2], 3))
	for i := range 8 {
		for j := range i {
			other := l
			other[i], other[j] = l[j], l[i]
			readsLeaf(t, other, entries{}, false)
		}
	}
}

// P9.2

func TestRootLaysTheNumbersOut(t *testing.T) {
	makesRoot(t, numbers{}, sealed(1<<32, 1<<32, 1<<32, 1<<32, 1<<32, 1<<32, 1<<32), api.OK)
	makesRoot(t, numbers{0, 1, 2, 3, 4, 5, 1023}, sealed(0x1_00000000, 0x1_00000001, 0x1_00000002, 0x1_00000003, 0x1_00000004, 0x1_00000005, 0x1_000003ff), api.OK)
	for _, n := range goodNumbers() {
		makesRoot(t, n, rootOf(n), api.OK)
	}
}

func TestRootAtEachEdgeAlone(t *testing.T) {
	for _, n := range goodNumbers() {
		for k := range n {
			for _, good := range []int{0, 1, 1022, 1023} {
				m := n
				m[k] = good
				makesRoot(t, m, rootOf(m), api.OK)
			}
			for _, bad := range badNumbers() {
				m := n
				m[k] = bad
				makesRoot(t, m, api.Line{}, api.ErrArg)
			}
		}
	}
}

func TestReadRootReadsTheNumbersBack(t *testing.T) {
	for _, n := range goodNumbers() {
		readsRoot(t, rootOf(n), n, true)
	}
}

func TestReadRootOfNoRootsLine(t *testing.T) {
	readsRoot(t, api.Line{}, numbers{}, false)
	readsRoot(t, sealed(), numbers{}, false)
	readsRoot(t, api.Line{full, full, full, full, full, full, full, full}, numbers{}, false)
	readsRoot(t, sealed(20, 21, 22, 23, 24, 25, 26), numbers{}, false)
	for _, n := range goodNumbers() {
		l := rootOf(n)
		for k := range n {
			for _, bad := range badNumbers() {
				m := n
				m[k] = bad
				readsRoot(t, rootOf(m), numbers{}, false)
			}
			for _, w := range []uint64{0, 20, 1023, 1<<32 - 1, 1<<32 + 1024, 2<<32 + 20, 3<<32 + 20, 1<<63 + 1<<32 + 20, 1<<33 + 20, 1<<31 + 20, full} {
				words := l
				words[k] = w
				readsRoot(t, sealed(words[:7]...), numbers{}, false)
			}
		}
		for _, sum := range []uint64{0, 1 << 32, l[7] - 1<<32, l[7] + 1<<32, l[7] + 1<<63, l[7] + 1, ^l[7], full} {
			other := l
			other[7] = sum
			readsRoot(t, other, numbers{}, false)
		}
	}
}

func TestReadRootOfOneBitTurned(t *testing.T) {
	for _, n := range goodNumbers() {
		for bit := range 512 {
			l := rootOf(n)
			l[bit/64] ^= 1 << (bit % 64)
			readsRoot(t, l, numbers{}, false)
		}
	}
}

func TestLeafsLineReadAsARoots(t *testing.T) {
	for _, x := range goodTables() {
		for k := range 7 {
			readsRoot(t, leafOf(partOf(x, k)), numbers{}, false)
		}
	}
	for _, n := range goodNumbers() {
		readsLeaf(t, rootOf(n), entries{}, false)
	}
}

// A leaf whose objects all stand in the line 16 has the words of a root: the chapter rules it out in neither reading.
func TestLineThatIsALeafsAndARoots(t *testing.T) {
	var x entries
	var n numbers
	for i := range x {
		kind, version := 1+i%4, 9*i
		x[i], n[i] = entryOf(kind, version, 16), 16*version+kind
	}
	if leafOf(x) != rootOf(n) {
		t.Fatal("they are no more the same")
	}
	readsLeaf(t, leafOf(x), x, true)
	readsRoot(t, leafOf(x), n, true)
	for i := range x {
		y, m := x, n
		y[i].Line, m[i] = 17, 16*9*i
		readsRoot(t, leafOf(y), numbers{}, false)
		readsLeaf(t, rootOf(m), entries{}, false)
	}
}

// P9.3

func TestDifferInNoEntry(t *testing.T) {
	for _, x := range goodTables() {
		differs(t, x, x)
	}
}

func TestDifferInOneEntry(t *testing.T) {
	for _, x := range goodTables() {
		for i := range x {
			kind, version, line := x, x, x
			kind[i].Kind++
			version[i].Version++
			line[i].Line++
			differs(t, x, kind, i/7)
			differs(t, x, version, i/7)
			differs(t, x, line, i/7)
			differs(t, kind, line, i/7)
		}
	}
}

func TestDifferInSeveralEntries(t *testing.T) {
	var none radix.Table
	for k := range 7 {
		one := none
		one[7*k].Kind, one[7*k+6].Kind = 1, 1
		differs(t, none, one, k)
		for other := range k {
			two := one
			two[7*other].Version = 1
			differs(t, none, two, other, k)
			differs(t, one, two, other)
		}
	}
	var first, last, all radix.Table
	for k := range 7 {
		first[7*k].Version, last[7*k+6].Version = 1, 1
	}
	for i := range all {
		all[i] = entryOf(1, 1, i)
	}
	differs(t, none, first, 0, 1, 2, 3, 4, 5, 6)
	differs(t, none, last, 0, 1, 2, 3, 4, 5, 6)
	differs(t, first, last, 0, 1, 2, 3, 4, 5, 6)
	differs(t, none, all, 0, 1, 2, 3, 4, 5, 6)
}

// What may not be is held against its like, too.
func TestDifferOfEntriesThatMayNotBe(t *testing.T) {
	for i, bad := range badEntries() {
		var none, one, two radix.Table
		one[i%49], two[i%49] = bad, bad
		differs(t, none, one, i%49/7)
		differs(t, one, two)
		two[48-i%49].Version += 1 << 32
		differs(t, one, two, (48-i%49)/7)
	}
}

// What is answered is the caller's own.
func TestDifferAnswersNewMemory(t *testing.T) {
	var none, one radix.Table
	one[8].Kind, one[48].Kind = 1, 1
	got := radix.Differ(none, one)
	for i := range got {
		got[i] = 99
	}
	differs(t, none, one, 1, 6)
}

// P9.4

// image is what Load is asked of: the lines of a memory, the line from which on they count, and the root's.
type image struct {
	lines      []api.Line
	from, root int
}

// lay is an image of so many lines of x, with its leaves and root there.
func lay(lines, from, root int, leaves numbers, x radix.Table) image {
	all := make([]api.Line, lines)
	for k, n := range leaves {
		all[n] = leafOf(partOf(x, k))
	}
	all[root] = rootOf(leaves)
	return image{all, from, root}
}

// with is an image like im, but for one line.
func (im image) with(line int, l api.Line) image {
	im.lines = slices.Clone(im.lines)
	im.lines[line] = l
	return im
}

// at is an image like im, but for the line from and the root's.
func (im image) at(from, root int) image {
	im.from, im.root = from, root
	return im
}

func (im image) memory(t *testing.T) *nvm.Memory {
	t.Helper()
	m, e := nvm.Of(im.lines)
	if e != api.OK {
		t.Fatal(e)
	}
	return m
}

// asks asks Load of a memory, and that all else is zero beside an error.
func asks(t *testing.T, m *nvm.Memory, from, root int, want radix.Table, leaves numbers, e api.Errno) {
	t.Helper()
	x, n, got := radix.Load(m, from, root)
	if x != want || n != leaves || got != e {
		t.Errorf("Load(from %d, root %d) = %v, %v, %v, want %v, %v, %v", from, root, x, n, got, want, leaves, e)
	}
}

// loads asks that an image is that of x.
func loads(t *testing.T, im image, x radix.Table, leaves numbers) {
	t.Helper()
	asks(t, im.memory(t), im.from, im.root, x, leaves, api.OK)
}

// broken asks that an image is none.
func broken(t *testing.T, im image) {
	t.Helper()
	asks(t, im.memory(t), im.from, im.root, radix.Table{}, numbers{}, api.ErrImage)
}

// few is a table of few objects, in the lines 30 to 32, and some that were.
func few() radix.Table {
	var x radix.Table
	x[0], x[8], x[46] = entryOf(1, 0, 30), entryOf(3, 4, 31), entryOf(2, topVersion, 32)
	x[1], x[47], x[48] = entryOf(0, 5, 0), entryOf(0, topVersion, 0), entryOf(0, 7, 0)
	return x
}

// put is x with another entry in one place.
func put(x radix.Table, i int, own api.Entry) radix.Table {
	x[i] = own
	return x
}

// usual are leaves' lines, ahead of the root's, 27, and the objects of few.
func usual() numbers {
	return numbers{20, 21, 22, 23, 24, 25, 26}
}

func fewImage() image {
	return lay(64, 10, 27, usual(), few())
}

func TestLoad(t *testing.T) {
	loads(t, fewImage(), few(), usual())
	loads(t, fewImage().at(20, 27), few(), usual())
	loads(t, lay(64, 10, 27, usual(), radix.Table{}), radix.Table{}, usual())
	mixed := numbers{40, 12, 63, 33, 10, 29, 28}
	loads(t, lay(64, 10, 11, mixed, few()), few(), mixed)
	loads(t, lay(1024, 10, 1023, numbers{1016, 1022, 10, 11, 500, 12, 900}, few()), few(), numbers{1016, 1022, 10, 11, 500, 12, 900})
}

// All 49 objects, in just the lines that are left from the line from on.
func TestLoadOfAllObjects(t *testing.T) {
	var x radix.Table
	for i := range x {
		x[i] = entryOf(1+i%4, i, 64-49+i)
	}
	leaves := numbers{7, 8, 9, 10, 11, 12, 13}
	im := lay(64, 7, 14, leaves, x)
	loads(t, im, x, leaves)
	loads(t, im.at(0, 14), x, leaves)
	broken(t, im.at(8, 14))
	y := x
	y[48].Line = 64
	broken(t, lay(64, 7, 14, leaves, y))
	loads(t, lay(65, 7, 14, leaves, y), y, leaves)
}

// The line from on which lines count is itself one of them, whatever stands there.
func TestLoadFrom(t *testing.T) {
	x := few()
	for _, c := range []struct {
		root   int
		leaves numbers
		least  int
	}{
		{15, numbers{20, 21, 22, 23, 24, 25, 26}, 15},
		{27, numbers{20, 21, 15, 23, 24, 25, 26}, 15},
		{27, numbers{20, 21, 22, 23, 24, 25, 15}, 15},
		{50, numbers{40, 41, 42, 43, 44, 45, 46}, 30},
	} {
		im := lay(64, 0, c.root, c.leaves, x)
		for _, from := range []int{c.least, c.least - 1, 1, 0, -1, -64, math.MinInt} {
			loads(t, im.at(from, c.root), x, c.leaves)
		}
		for _, from := range []int{c.least + 1, 63, 64, 65, 1 << 32, math.MaxInt} {
			broken(t, im.at(from, c.root))
		}
	}
}

// The line 0 may be a root's, a leaf's or an object's, if lines count from it on: no number stands for none.
func TestLoadFromTheLineNought(t *testing.T) {
	x := radix.Table{3: entryOf(1, 0, 8)}
	leaves := numbers{1, 2, 3, 4, 5, 6, 7}
	for _, from := range []int{0, -1, math.MinInt} {
		loads(t, lay(64, from, 0, leaves, x), x, leaves)
		loads(t, lay(64, from, 9, numbers{0, 2, 3, 4, 5, 6, 7}, x), x, numbers{0, 2, 3, 4, 5, 6, 7})
	}
	x[3].Line = 0
	loads(t, lay(64, 0, 9, leaves, x), x, leaves)
	loads(t, lay(64, math.MinInt, 9, leaves, x), x, leaves)
	broken(t, lay(64, 1, 9, leaves, x))
}

func TestLoadOfTheRootsLine(t *testing.T) {
	x, leaves := few(), usual()
	loads(t, lay(64, 10, 10, leaves, x), x, leaves)
	broken(t, lay(64, 10, 9, leaves, x))
	loads(t, lay(64, 10, 63, leaves, x), x, leaves)
	loads(t, lay(1024, 10, 1023, leaves, x), x, leaves)
	for _, from := range []int{10, 0, -1, math.MinInt, 64, math.MaxInt} {
		for _, root := range []int{-1, 64, 65, -27, 1 << 10, 1 << 32, 1<<32 + 27, 1 << 62, math.MinInt, math.MinInt + 27, math.MaxInt} {
			broken(t, fewImage().at(from, root))
			asks(t, lay(1024, 10, 27, leaves, x).memory(t), from, root|1<<10, radix.Table{}, numbers{}, api.ErrImage)
		}
	}
}

func TestLoadOfWhatIsNoRoot(t *testing.T) {
	for _, root := range []int{10, 19, 20, 26, 28, 30, 63} {
		broken(t, fewImage().at(10, root))
	}
	l := rootOf(usual())
	for _, other := range []api.Line{{}, sealed(), sealed(20, 21, 22, 23, 24, 25, 26), leafOf(partOf(few(), 0)), rootOf(numbers{20, 21, 22, 23, 24, 25, 1024}), rootOf(numbers{-1, 21, 22, 23, 24, 25, 26})} {
		broken(t, fewImage().with(27, other))
	}
	for bit := range 512 {
		other := l
		other[bit/64] ^= 1 << (bit % 64)
		broken(t, fewImage().with(27, other))
	}
}

func TestLoadOfLeavesLines(t *testing.T) {
	for k := range 7 {
		leaf := leafOf(partOf(few(), k))
		for _, n := range []int{10, 11, 19, 28, 29, 33, 62, 63} {
			leaves := usual()
			leaves[k] = n
			loads(t, fewImage().with(n, leaf).with(27, rootOf(leaves)), few(), leaves)
		}
		for _, n := range []int{0, 1, 8, 9} {
			leaves := usual()
			leaves[k] = n
			broken(t, fewImage().with(n, leaf).with(27, rootOf(leaves)))
			loads(t, fewImage().with(n, leaf).with(27, rootOf(leaves)).at(n, 27), few(), leaves)
		}
		for _, n := range []int{64, 65, 512, 1023} {
			leaves := usual()
			leaves[k] = n
			broken(t, fewImage().with(27, rootOf(leaves)))
			loads(t, lay(1024, 10, 27, leaves, few()), few(), leaves)
		}
	}
}

func TestLoadOfWhatIsNoLeaf(t *testing.T) {
	for k, n := range usual() {
		l := leafOf(partOf(few(), k))
		for _, other := range []api.Line{{}, rootOf(usual()), rootOf(numbers{}), sealed(5), sealed(0, 0, 0, 0, 0, 0, 1<<44), sealed(0, 0, 0, 1<<28), sealed(0, 0, wordOf(entryOf(1, 0, 1024)))} {
			broken(t, fewImage().with(n, other))
		}
		for bit := range 512 {
			other := l
			other[bit/64] ^= 1 << (bit % 64)
			broken(t, fewImage().with(n, other))
		}
	}
}

// An object in each place, in a line that is free, or below the line from, or behind the last line.
func TestLoadOfObjectsLines(t *testing.T) {
	for i := range 49 {
		for kind := 1; kind <= 4; kind++ {
			for _, n := range []int{10, 11, 19, 28, 29, 33, 62, 63} {
				x := put(few(), i, entryOf(kind, 3, n))
				loads(t, lay(64, 10, 27, usual(), x), x, usual())
			}
			for _, n := range []int{0, 1, 9} {
				x := put(few(), i, entryOf(kind, 3, n))
				broken(t, lay(64, 10, 27, usual(), x))
				loads(t, lay(64, n, 27, usual(), x), x, usual())
			}
			for _, n := range []int{64, 65, 1023} {
				x := put(few(), i, entryOf(kind, 3, n))
				broken(t, lay(64, 10, 27, usual(), x))
				broken(t, lay(n, 10, 27, usual(), x))
				loads(t, lay(min(n+1, 1024), 10, 27, usual(), x), x, usual())
			}
		}
	}
}

// Of what is not there no line is named, nor missed, nor the same as another one.
func TestLoadOfNoObjects(t *testing.T) {
	var x radix.Table
	for i := range x {
		x[i] = entryOf(0, topVersion-i, 0)
	}
	leaves := numbers{1, 2, 3, 4, 5, 6, 7}
	loads(t, lay(64, 10, 27, usual(), x), x, usual())
	loads(t, lay(64, 0, 0, leaves, x), x, leaves)
	loads(t, lay(64, 0, 20, numbers{0, 1, 2, 3, 4, 5, 6}, x), x, numbers{0, 1, 2, 3, 4, 5, 6})
	x[30] = entryOf(1, 0, 0)
	loads(t, lay(64, 0, 20, leaves, x), x, leaves)
	broken(t, lay(64, 0, 0, leaves, x))
}

// Leaves that are alike in all entries have the same line's words: but each needs a line of its own.
func TestLoadOfTwoLeavesInOneLine(t *testing.T) {
	for k := range 7 {
		for other := range k {
			leaves := usual()
			leaves[k] = leaves[other]
			broken(t, lay(64, 10, 27, leaves, radix.Table{}))
		}
	}
	broken(t, lay(64, 10, 27, numbers{20, 20, 20, 20, 20, 20, 20}, radix.Table{}))
}

func TestLoadOfALeafInTheRootsLine(t *testing.T) {
	for k := range 7 {
		leaves := usual()
		leaves[k] = 27
		broken(t, lay(64, 10, 27, leaves, few()))
		broken(t, lay(64, 10, 27, leaves, few()).with(27, leafOf(partOf(few(), k))))
	}
	// The line 17 is a root's and a leaf's at once.
	x, leaves := entries{}, numbers{17, 18, 19, 20, 33, 34, 35}
	for i, n := range leaves {
		x[i] = entryOf(n%16, n/16, 16)
	}
	im := lay(64, 10, 17, leaves, radix.Table{})
	if im.lines[17] != leafOf(x) {
		t.Fatal("it is a root's alone")
	}
	broken(t, im)
}

// An object in each place, in the line of the root, of each leaf, and of each other object.
func TestLoadOfAnObjectInALineThatIsNamed(t *testing.T) {
	for i := range 49 {
		for kind := 1; kind <= 4; kind++ {
			for n := 20; n <= 27; n++ {
				broken(t, lay(64, 10, 27, usual(), put(few(), i, entryOf(kind, 3, n))))
			}
		}
		for other := range i {
			x := put(radix.Table{}, i, entryOf(1, 3, 40))
			broken(t, lay(64, 10, 27, usual(), put(x, other, entryOf(1, 3, 40))))
			broken(t, lay(64, 10, 27, usual(), put(x, other, entryOf(2, 4, 40))))
			apart := put(x, other, entryOf(1, 3, 41))
			loads(t, lay(64, 10, 27, usual(), apart), apart, usual())
			gone := put(x, other, entryOf(0, 3, 0))
			loads(t, lay(64, 10, 27, usual(), gone), gone, usual())
		}
	}
}

// What stands in the objects' lines does not matter.
func TestLoadWhateverTheObjectsAre(t *testing.T) {
	im := fewImage()
	for _, l := range []api.Line{{1, 2, 3}, rootOf(usual()), leafOf(partOf(few(), 1)), {full, full, full, full, full, full, full, full}} {
		for n := 28; n < 64; n++ {
			loads(t, im.with(n, l), few(), usual())
		}
		loads(t, im.with(0, l).with(9, l).with(10, l), few(), usual())
	}
}

// off is the memory of im without power.
func off(t *testing.T, im image) *nvm.Memory {
	t.Helper()
	m := im.memory(t)
	m.Fuse(0)
	if e := m.Store(0, 0, 1); e != api.ErrPower || m.On() {
		t.Fatalf("the power is on: %v", e)
	}
	return m
}

// That the power is off is told ahead of all else.
func TestLoadWithoutPower(t *testing.T) {
	m := off(t, fewImage())
	for _, from := range []int{10, 28, 0, 64, -1, math.MinInt, math.MaxInt} {
		for _, root := range []int{27, 20, 9, 64, -1, math.MinInt, math.MaxInt} {
			asks(t, m, from, root, radix.Table{}, numbers{}, api.ErrPower)
		}
	}
	asks(t, off(t, image{lines: make([]api.Line, 64)}), 10, 27, radix.Table{}, numbers{}, api.ErrPower)
	m.Crash(nil)
	asks(t, m, 10, 27, few(), usual(), api.OK)
}

// A Load is no step: a fuse does not matter, and nothing changes.
func TestLoadChangesNothing(t *testing.T) {
	im := fewImage()
	for _, root := range []int{27, 26, 64, -1} {
		m := im.memory(t)
		m.Store(40, 0, 7)
		m.Fuse(1)
		x, leaves, e := few(), usual(), api.OK
		if root != 27 {
			x, leaves, e = radix.Table{}, numbers{}, api.ErrImage
		}
		for range 3 {
			asks(t, m, 10, root, x, leaves, e)
		}
		if m.Steps() != 1 || !m.On() || !slices.Equal(m.Sure(), im.lines) {
			t.Errorf("root %d: %d steps, on %v", root, m.Steps(), m.On())
		}
		if e := m.Store(40, 1, 8); e != api.OK {
			t.Errorf("root %d: the fuse let no more steps be done: %v", root, e)
		}
		asks(t, m, 10, root, x, leaves, e)
		if e := m.Store(40, 2, 9); e != api.ErrPower {
			t.Errorf("root %d: the fuse burns no more: %v", root, e)
		}
	}
}

// store stores a line's words to m.
func store(t *testing.T, m *nvm.Memory, line int, l api.Line) {
	t.Helper()
	for at, w := range l {
		if e := m.Store(line, at, w); e != api.OK {
			t.Fatal(e)
		}
	}
}

// What a line has counts, sure or not.
func TestLoadOfLinesThatAreNotSure(t *testing.T) {
	m, im := image{lines: make([]api.Line, 64)}.memory(t), fewImage()
	for n := 20; n <= 27; n++ {
		asks(t, m, 10, 27, radix.Table{}, numbers{}, api.ErrImage)
		store(t, m, n, im.lines[n])
	}
	asks(t, m, 10, 27, few(), usual(), api.OK)
	other := m.Clone()
	other.Crash(nil)
	asks(t, other, 10, 27, radix.Table{}, numbers{}, api.ErrImage)
	for n := 20; n <= 27; n++ {
		m.Flush(0, n)
	}
	m.Fence(0)
	m.Crash(nil)
	asks(t, m, 10, 27, few(), usual(), api.OK)
	m.Store(27, 0, 0)
	asks(t, m, 10, 27, radix.Table{}, numbers{}, api.ErrImage)
	m.Crash(nil)
	asks(t, m, 10, 27, few(), usual(), api.OK)
}

// P9.5

// chanceEntry is an entry that may be: some of its parts at an edge, some anywhere.
func chanceEntry(r *rand.Rand) api.Entry {
	pick := func(edges ...int) int { return edges[r.Intn(len(edges))] }
	x := entryOf(r.Intn(5), pick(0, 1, topVersion-1, topVersion, r.Intn(1<<24)), pick(0, 1, 16, topLine, r.Intn(1024)))
	if x.Kind == 0 {
		x.Line = 0
	}
	return x
}

func chanceTable(r *rand.Rand) radix.Table {
	var x radix.Table
	for i := range x {
		x[i] = chanceEntry(r)
	}
	return x
}

func TestWhatIsWrittenIsRead(t *testing.T) {
	r := rand.New(rand.NewSource(9))
	for range 2000 {
		x := chanceTable(r)
		for k := range 7 {
			l, e := radix.Leaf(x, k)
			if e != api.OK {
				t.Fatalf("Leaf(%v, %d): %v", x, k, e)
			}
			readsLeaf(t, l, partOf(x, k), true)
		}
		var n numbers
		for k := range n {
			n[k] = r.Intn(1024)
		}
		l, e := radix.Root(n)
		if e != api.OK {
			t.Fatalf("Root(%v): %v", n, e)
		}
		readsRoot(t, l, n, true)
	}
}

// A directory is stored by the layer's own calls, in lines of chance, and loaded.
func TestWhatIsStoredIsLoaded(t *testing.T) {
	r := rand.New(rand.NewSource(95))
	for range 500 {
		size := 64 + r.Intn(961)
		from := r.Intn(size - 56)
		m, e := nvm.New(size)
		if e != api.OK {
			t.Fatal(e)
		}
		free := r.Perm(size - from)
		next := func() int {
			line := from + free[0]
			free = free[1:]
			return line
		}
		x := chanceTable(r)
		for i := range x {
			if x[i].Kind != 0 {
				x[i].Line = next()
			}
		}
		var leaves numbers
		for k := range leaves {
			leaves[k] = next()
			l, _ := radix.Leaf(x, k)
			store(t, m, leaves[k], l)
		}
		root := next()
		l, _ := radix.Root(leaves)
		store(t, m, root, l)
		asks(t, m, from, root, x, leaves, api.OK)
	}
}

// What does not differ has the same line; what differs has another one.
func TestLeavesThatDoNotDifferHaveTheSameLine(t *testing.T) {
	r := rand.New(rand.NewSource(99))
	for range 2000 {
		a := chanceTable(r)
		b := a
		for range r.Intn(4) {
			b[r.Intn(49)] = chanceEntry(r)
		}
		var want []int
		for k := range 7 {
			first, e := radix.Leaf(a, k)
			second, other := radix.Leaf(b, k)
			if e != api.OK || other != api.OK {
				t.Fatalf("Leaf(.., %d): %v, %v", k, e, other)
			}
			if first != second {
				want = append(want, k)
			}
		}
		differs(t, a, b, want...)
	}
}

// All of Load, of images of chance, against the chapter's rule.

// asLeaf are the entries whose line l is.
func asLeaf(l api.Line) (x entries, ok bool) {
	if l != sealed(l[:7]...) {
		return x, false
	}
	for i, w := range l[:7] {
		x[i] = entryOf(int(w&15), int(w>>4&topVersion), int(w>>28&65535))
		if w>>44 != 0 || !allowed(x[i]) {
			return entries{}, false
		}
	}
	return x, true
}

// asRoot are the leaves' lines whose line l is.
func asRoot(l api.Line) (n numbers, ok bool) {
	if l != sealed(l[:7]...) {
		return n, false
	}
	for k, w := range l[:7] {
		if w < 1<<32 || w > 1<<32+topLine {
			return numbers{}, false
		}
		n[k] = int(w & topLine)
	}
	return n, true
}

// said is what the chapter says of an image, with the power on.
func said(im image) (radix.Table, numbers, api.Errno) {
	good := func(line int) bool { return line >= max(im.from, 0) && line < len(im.lines) }
	if !good(im.root) {
		return radix.Table{}, numbers{}, api.ErrImage
	}
	leaves, ok := asRoot(im.lines[im.root])
	if !ok {
		return radix.Table{}, numbers{}, api.ErrImage
	}
	var x radix.Table
	lines := append([]int{im.root}, leaves[:]...)
	for k, line := range leaves {
		if !good(line) {
			return radix.Table{}, numbers{}, api.ErrImage
		}
		leaf, ok := asLeaf(im.lines[line])
		if !ok {
			return radix.Table{}, numbers{}, api.ErrImage
		}
		for i, own := range leaf {
			x[7*k+i] = own
			if own.Kind == 0 {
				continue
			}
			if !good(own.Line) {
				return radix.Table{}, numbers{}, api.ErrImage
			}
			lines = append(lines, own.Line)
		}
	}
	slices.Sort(lines)
	if len(slices.Compact(slices.Clone(lines))) != len(lines) {
		return radix.Table{}, numbers{}, api.ErrImage
	}
	return x, leaves, api.OK
}

// chanceImage is an image that is good, but for what chance did to it now and then.
func chanceImage(r *rand.Rand) image {
	size := 64 + r.Intn(20)
	from := r.Intn(6)
	free := r.Perm(size - from)
	next := func() int {
		if len(free) == 0 || r.Intn(60) == 0 {
			return r.Intn(size + 2)
		}
		line := from + free[0]
		free = free[1:]
		return line
	}
	var x radix.Table
	for range r.Intn(30) {
		x[r.Intn(49)] = entryOf(1+r.Intn(4), r.Intn(3), next())
	}
	x[r.Intn(49)] = entryOf(0, topVersion, 0)
	var leaves numbers
	for k := range leaves {
		leaves[k] = next() % size
	}
	im := lay(size, from, next()%size, leaves, x)
	switch r.Intn(8) {
	case 0:
		im.lines[leaves[r.Intn(7)]][r.Intn(8)] ^= 1 << r.Intn(64)
	case 1:
		im.lines[im.root][r.Intn(8)] ^= 1 << r.Intn(64)
	case 2:
		im.from = r.Intn(8)
	case 3:
		im.root = r.Intn(size+2) - 1
	}
	return im
}

func TestLoadsOfChance(t *testing.T) {
	r := rand.New(rand.NewSource(94))
	good, bad := 0, 0
	for range 20000 {
		im := chanceImage(r)
		x, leaves, e := said(im)
		asks(t, im.memory(t), im.from, im.root, x, leaves, e)
		if e == api.OK {
			good++
		} else {
			bad++
		}
	}
	if good < 2000 || bad < 2000 {
		t.Errorf("%d images are good, %d are not: too few of one", good, bad)
	}
}

// Lines of chance, most of them sealed and near one that may be, read both ways against the chapter's rule.
func TestReadsOfChance(t *testing.T) {
	r := rand.New(rand.NewSource(91))
	for range 50000 {
		var w [7]uint64
		for i := range w {
			switch r.Intn(30) {
			case 0:
				w[i] = r.Uint64()
			case 1:
				w[i] = 1<<32 + uint64(r.Intn(1100))
			case 2:
				w[i] = wordOf(entryOf(r.Intn(6), r.Intn(1<<24), r.Intn(1100)))
			default:
				w[i] = 1<<32 + uint64(16*r.Intn(64)+1+r.Intn(4))
			}
		}
		l := sealed(w[:]...)
		if r.Intn(8) == 0 {
			l[r.Intn(8)] ^= 1 << r.Intn(64)
		}
		x, ok := asLeaf(l)
		readsLeaf(t, l, x, ok)
		n, ok := asRoot(l)
		readsRoot(t, l, n, ok)
	}
}

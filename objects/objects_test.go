package objects_test

import (
	"math"
	"slices"
	"testing"

	"steadfast/api"
	"steadfast/nvm"
	"steadfast/objects"
	"steadfast/radix"
)

const topVersion = 1<<24 - 1

// far are numbers that are none of a table's, a line's, a kind's or a frame's.
func far() []int {
	return []int{-1, -2, 1 << 16, 1 << 32, 1<<32 + 1, -1 << 32, math.MinInt32, math.MinInt, math.MinInt + 1, math.MaxInt - 1, math.MaxInt}
}

func entryOf(kind, version, line int) api.Entry {
	return api.Entry{Kind: kind, Version: version, Line: line}
}

// capOf is a capability's word, laid out without the program's own packages.
func capOf(kind, rights, id, version, badge int) uint64 {
	return uint64(kind) | uint64(rights)<<4 | uint64(id)<<8 | uint64(version)<<24 | uint64(badge)<<48
}

// lineOf is what the line n of a memory of these tests has at first: no two words are the same.
func lineOf(n int) api.Line {
	var l api.Line
	for w := range l {
		l[w] = uint64(1000*n + w + 1)
	}
	return l
}

func memory(t *testing.T, lines int) *nvm.Memory {
	t.Helper()
	l := make([]api.Line, lines)
	for n := range l {
		l[n] = lineOf(n)
	}
	m, e := nvm.Of(l)
	if e != api.OK {
		t.Fatal(e)
	}
	return m
}

// dirFrom are eight lines, one behind the other.
func dirFrom(first int) objects.Dir {
	var d objects.Dir
	for i := range d {
		d[i] = first + i
	}
	return d
}

// few has an object of each kind, at both ends of the table, too; the numbers 2 and 47 had one; 3 has had all versions.
func few() radix.Table {
	return radix.Table{
		0:  entryOf(api.KindPage, 0, 20),
		1:  entryOf(api.KindNode, 5, 21),
		2:  entryOf(api.KindNone, 9, 0),
		3:  entryOf(api.KindNone, topVersion, 0),
		7:  entryOf(api.KindThread, 1, 22),
		30: entryOf(api.KindGate, topVersion, 23),
		47: entryOf(api.KindNone, 4, 0),
		48: entryOf(api.KindPage, 2, 24),
	}
}

// fewLeft is how many frames are free in the store of few: of 54 frames, eight are the Dir's and five the objects'.
const fewLeft = 64 - 10 - 8 - 5

func of(t *testing.T, lines, from int, x radix.Table, d objects.Dir) (*nvm.Memory, *objects.Store) {
	t.Helper()
	m := memory(t, lines)
	s, e := objects.Of(m, from, x, d)
	if e != api.OK || s == nil {
		t.Fatalf("Of(%d lines, %d, %v, %v) = %v, %v", lines, from, x, d, s, e)
	}
	return m, s
}

func fewStore(t *testing.T) (*nvm.Memory, *objects.Store) {
	t.Helper()
	return of(t, 64, 10, few(), dirFrom(10))
}

func refused(t *testing.T, m *nvm.Memory, from int, x radix.Table, d objects.Dir, want api.Errno) {
	t.Helper()
	if s, e := objects.Of(m, from, x, d); s != nil || e != want {
		t.Errorf("Of(%d lines, %d, %v, %v) = %v, %v, want nil, %v", m.Lines(), from, x, d, s, e, want)
	}
}

func is(t *testing.T, want api.Errno, codes ...api.Errno) {
	t.Helper()
	for i, e := range codes {
		if e != want {
			t.Errorf("call %d answered %v, want %v", i, e, want)
		}
	}
}

func left(t *testing.T, s *objects.Store, want int) {
	t.Helper()
	if got := s.Left(); got != want {
		t.Errorf("Left = %d, want %d", got, want)
	}
}

func stands(t *testing.T, s *objects.Store, id int, want api.Entry) {
	t.Helper()
	if got := s.Table()[id]; got != want {
		t.Errorf("the entry %d is %v, want %v", id, got, want)
	}
}

func gets(t *testing.T, s *objects.Store, id int, want api.Object, e api.Errno) {
	t.Helper()
	if got, code := s.Get(id); got != want || code != e {
		t.Errorf("Get(%d) = %v, %v, want %v, %v", id, got, code, want, e)
	}
}

func names(t *testing.T, s *objects.Store, c uint64, id int, e api.Errno) {
	t.Helper()
	if got, code := s.Names(c); got != id || code != e {
		t.Errorf("Names(%x) = %d, %v, want %d, %v", c, got, code, id, e)
	}
}

func nexts(t *testing.T, s *objects.Store, kind, id, version int, e api.Errno) {
	t.Helper()
	if got, v, code := s.Next(kind); got != id || v != version || code != e {
		t.Errorf("Next(%d) = %d, %d, %v, want %d, %d, %v", kind, got, v, code, id, version, e)
	}
}

func makes(t *testing.T, s *objects.Store, kind, id int, e api.Errno) {
	t.Helper()
	if got, code := s.Make(kind); got != id || code != e {
		t.Errorf("Make(%d) = %d, %v, want %d, %v", kind, got, code, id, e)
	}
}

func takes(t *testing.T, s *objects.Store, line int, e api.Errno) {
	t.Helper()
	if got, code := s.Take(); got != line || code != e {
		t.Errorf("Take = %d, %v, want %d, %v", got, code, line, e)
	}
}

func room(t *testing.T, s *objects.Store, ids []int, more int, want bool) {
	t.Helper()
	given := slices.Clone(ids)
	if got := s.Room(ids, more); got != want {
		t.Errorf("Room(%v, %d) = %v with %d frames left, want %v", ids, more, got, s.Left(), want)
	}
	if !slices.Equal(ids, given) {
		t.Errorf("Room changed %v to %v", given, ids)
	}
}

func marked(t *testing.T, s *objects.Store, want radix.Table, is bool) {
	t.Helper()
	if got, ok := s.Marked(); got != want || ok != is {
		t.Errorf("Marked = %v, %v, want %v, %v", got, ok, want, is)
	}
}

func based(t *testing.T, s *objects.Store, x radix.Table, d objects.Dir) {
	t.Helper()
	if got, dir := s.Base(); got != x || dir != d {
		t.Errorf("Base = %v, %v, want %v, %v", got, dir, x, d)
	}
}

func holds(t *testing.T, m *nvm.Memory, line int, want api.Line) {
	t.Helper()
	if got, e := m.Load(line); got != want || e != api.OK {
		t.Errorf("the line %d has %v, %v, want %v", line, got, e, want)
	}
}

// drain takes frames till n are free.
func drain(t *testing.T, s *objects.Store, n int) {
	t.Helper()
	for s.Left() > n {
		if _, e := s.Take(); e != api.OK {
			t.Fatal(e)
		}
	}
	left(t, s, n)
}

// off turns the power of m off.
func off(t *testing.T, m *nvm.Memory) {
	t.Helper()
	m.Fuse(0)
	if e := m.Store(0, 0, 1); e != api.ErrPower || m.On() {
		t.Fatalf("the power is on: %v", e)
	}
}

// with is l with another word.
func with(l api.Line, word int, v uint64) api.Line {
	l[word] = v
	return l
}

func put(x radix.Table, id int, own api.Entry) radix.Table {
	x[id] = own
	return x
}

func object(kind, version int, l api.Line) api.Object {
	return api.Object{Kind: kind, Version: version, L: l}
}

// The chapter's examples.
func TestExamples(t *testing.T) {
	_, s := of(t, 64, 10, radix.Table{0: entryOf(api.KindPage, 0, 20)}, dirFrom(10))
	is(t, api.OK, s.Set(0, 3, 7))
	first := s.Table()[0]
	if first.Line == 20 {
		t.Error("the object 0 is in the base's line still")
	}
	is(t, api.OK, s.Set(0, 4, 8))
	stands(t, s, 0, first)
	gets(t, s, 0, object(api.KindPage, 0, with(with(lineOf(20), 3, 7), 4, 8)), api.OK)
	makes(t, s, api.KindThread, 0, api.ErrArg)
	nexts(t, s, api.KindPage, 1, 0, api.OK)
}

// P10.1

func TestOf(t *testing.T) {
	m, s := fewStore(t)
	if s.Table() != few() {
		t.Errorf("Table = %v", s.Table())
	}
	based(t, s, few(), dirFrom(10))
	marked(t, s, radix.Table{}, false)
	left(t, s, fewLeft)
	if m.Steps() != 0 {
		t.Errorf("Of did %d steps", m.Steps())
	}
	// The lines of the Dir and of the objects are taken: all others come, rising.
	for _, line := range []int{18, 19, 25, 26} {
		takes(t, s, line, api.OK)
	}
}

func TestOfNoObjects(t *testing.T) {
	for _, c := range []struct{ lines, from, left int }{{64, 0, 56}, {64, 10, 46}, {64, 56, 0}, {1024, 0, 1016}, {1024, 34, 982}, {1024, 1016, 0}} {
		d := dirFrom(c.from)
		_, s := of(t, c.lines, c.from, radix.Table{}, d)
		left(t, s, c.left)
		based(t, s, radix.Table{}, d)
		d = dirFrom(c.lines - 8)
		_, s = of(t, c.lines, c.from, radix.Table{}, d)
		left(t, s, c.left)
		based(t, s, radix.Table{}, d)
	}
}

// all has an object of each number, from a line on.
func all(first int) radix.Table {
	var x radix.Table
	for i := range x {
		x[i] = entryOf(1+i%4, i, first+i)
	}
	return x
}

func TestOfAllObjects(t *testing.T) {
	for _, c := range []struct{ lines, from, left int }{{64, 7, 0}, {64, 0, 7}, {1024, 967, 0}, {1024, 10, 957}} {
		_, s := of(t, c.lines, c.from, all(c.from+8), dirFrom(c.from))
		left(t, s, c.left)
		for i := range 49 {
			gets(t, s, i, object(1+i%4, i, lineOf(c.from+8+i)), api.OK)
		}
	}
}

func TestOfFromThatIsRefused(t *testing.T) {
	for _, lines := range []int{64, 1024} {
		m := memory(t, lines)
		for _, from := range append(far(), lines+1, lines+2, -lines) {
			refused(t, m, from, few(), dirFrom(10), api.ErrArg)
			// It is told ahead of what is wrong with the lines.
			refused(t, m, from, put(few(), 0, entryOf(1, 0, 21)), objects.Dir{}, api.ErrArg)
		}
		// With no frame at all no line is one.
		refused(t, m, lines, radix.Table{}, dirFrom(10), api.ErrImage)
		refused(t, m, lines, radix.Table{}, dirFrom(lines), api.ErrImage)
	}
}

func TestOfADirWithNoFrame(t *testing.T) {
	for _, lines := range []int{64, 1024} {
		m := memory(t, lines)
		for i := range 8 {
			for _, line := range append(far(), 0, 1, 8, 9, lines, lines+1, 1024, 1024+10+i) {
				d := dirFrom(10)
				d[i] = line
				refused(t, m, 10, few(), d, api.ErrImage)
			}
			for _, line := range []int{18, 25, lines - 1} {
				d := dirFrom(10)
				d[i] = line
				if _, s := of(t, lines, 10, few(), d); s.Left() != lines-23 {
					t.Errorf("Left = %d", s.Left())
				}
			}
		}
	}
}

func TestOfALineThatIsNamedTwice(t *testing.T) {
	m := memory(t, 64)
	for i := range 8 {
		for j := range i {
			d := dirFrom(10)
			d[i] = d[j]
			refused(t, m, 10, radix.Table{}, d, api.ErrImage)
		}
		for id := range 49 {
			for kind := 1; kind <= 4; kind++ {
				refused(t, m, 10, put(radix.Table{}, id, entryOf(kind, 0, 10+i)), dirFrom(10), api.ErrImage)
			}
		}
	}
	for id := range 49 {
		for other := range id {
			x := put(radix.Table{}, id, entryOf(1, 3, 40))
			refused(t, m, 10, put(x, other, entryOf(1, 3, 40)), dirFrom(10), api.ErrImage)
			refused(t, m, 10, put(x, other, entryOf(4, 0, 40)), dirFrom(10), api.ErrImage)
			of(t, 64, 10, put(x, other, entryOf(1, 3, 41)), dirFrom(10))
		}
	}
}

func TestOfObjectsInNoFrame(t *testing.T) {
	m := memory(t, 64)
	for id := range 49 {
		for _, line := range append(far(), 0, 9, 64, 65, 1023, 1024) {
			for kind := 1; kind <= 4; kind++ {
				refused(t, m, 10, put(radix.Table{}, id, entryOf(kind, 0, line)), dirFrom(10), api.ErrImage)
			}
		}
		for _, line := range []int{18, 19, 63} {
			_, s := of(t, 64, 10, put(radix.Table{}, id, entryOf(1, 0, line)), dirFrom(10))
			left(t, s, 45)
		}
	}
}

// An entry of KindNone names no line, whatever number stands there: none is taken, missed or kept by it.
func TestOfTheLineOfNoObject(t *testing.T) {
	for _, line := range append(far(), 0, 9, 10, 17, 18, 20, 30, 63, 64, 1024) {
		x := put(put(few(), 5, entryOf(0, 1, line)), 6, entryOf(0, 2, line))
		_, s := of(t, 64, 10, x, dirFrom(10))
		left(t, s, fewLeft)
		gets(t, s, 5, api.Object{}, api.ErrNone)
		is(t, api.ErrNone, s.Set(5, 0, 1), s.End(5))
		is(t, api.OK, s.Mark(), s.Abort())
		left(t, s, fewLeft)
	}
}

// What stands in the line of such an entry may be an object's own line.
func TestALineOfNoObjectIsNotTheBases(t *testing.T) {
	m, s := of(t, 64, 10, put(few(), 5, entryOf(0, 0, 18)), dirFrom(10))
	is(t, api.OK, s.Set(0, 0, 1))
	stands(t, s, 0, entryOf(1, 0, 18))
	is(t, api.OK, s.Set(0, 1, 2))
	stands(t, s, 0, entryOf(1, 0, 18))
	holds(t, m, 18, with(with(lineOf(20), 0, 1), 1, 2))
	room(t, s, []int{0}, fewLeft-1, true)
	is(t, api.OK, s.End(0))
	left(t, s, fewLeft)
	is(t, api.OK, s.Mark())
	makes(t, s, api.KindPage, 0, api.OK)
	stands(t, s, 0, entryOf(1, 1, 18))
	is(t, api.OK, s.End(0))
	left(t, s, fewLeft)
}

// It does not keep a frame that was taken, either.
func TestALineOfNoObjectIsFreed(t *testing.T) {
	_, s := of(t, 64, 10, put(few(), 5, entryOf(0, 0, 18)), dirFrom(10))
	takes(t, s, 18, api.OK)
	is(t, api.OK, s.Mark(), s.Abort())
	left(t, s, fewLeft)
	takes(t, s, 18, api.OK)
	is(t, api.OK, s.Mark(), s.Commit(dirFrom(10)))
	left(t, s, fewLeft)
}

// A kind that no entry may have is not KindNone: its line counts.
func TestOfOtherKinds(t *testing.T) {
	m := memory(t, 64)
	for _, kind := range []int{-1, 5, 6, 16, math.MinInt, math.MaxInt} {
		refused(t, m, 10, radix.Table{4: entryOf(kind, 0, 9)}, dirFrom(10), api.ErrImage)
		refused(t, m, 10, radix.Table{4: entryOf(kind, 0, 10)}, dirFrom(10), api.ErrImage)
		_, s := of(t, 64, 10, radix.Table{4: entryOf(kind, 7, 20)}, dirFrom(10))
		left(t, s, 45)
		gets(t, s, 4, object(kind, 7, lineOf(20)), api.OK)
		is(t, api.OK, s.Set(4, 0, 1), s.End(4))
		stands(t, s, 4, entryOf(0, 8, 0))
	}
}

// Of asks nothing of the memory but its number of lines.
func TestOfWithoutPower(t *testing.T) {
	m := memory(t, 64)
	off(t, m)
	s, e := objects.Of(m, 10, few(), dirFrom(10))
	if e != api.OK {
		t.Fatal(e)
	}
	left(t, s, fewLeft)
	refused(t, m, 10, few(), objects.Dir{}, api.ErrImage)
	refused(t, m, 65, few(), dirFrom(10), api.ErrArg)
}

// A store that Of did not make has nothing; no call of it panics.
func TestAStoreOfNothing(t *testing.T) {
	s := new(objects.Store)
	for _, s := range []*objects.Store{s, s.Clone(memory(t, 64)), s.Clone(nil)} {
		gets(t, s, 0, api.Object{}, api.ErrNone)
		names(t, s, capOf(1, 0, 0, 0, 0), 0, api.ErrNone)
		nexts(t, s, api.KindPage, 0, 0, api.OK)
		makes(t, s, api.KindPage, 0, api.ErrFull)
		takes(t, s, 0, api.ErrFull)
		room(t, s, []int{0}, 0, true)
		room(t, s, nil, 1, false)
		is(t, api.ErrNone, s.Set(0, 0, 1), s.End(0))
		is(t, api.OK, s.Mark(), s.Commit(dirFrom(10)), s.Mark(), s.Abort())
		left(t, s, 0)
	}
}

// The memory is the caller's, too.
func TestTheMemoryIsShared(t *testing.T) {
	m, s := fewStore(t)
	m.Store(20, 2, 77)
	gets(t, s, 0, object(1, 0, with(lineOf(20), 2, 77)), api.OK)
	is(t, api.OK, s.Set(0, 0, 5))
	holds(t, m, s.Table()[0].Line, with(with(lineOf(20), 2, 77), 0, 5))
}

// What is answered is the caller's own.
func TestAnswersAreTheCallersOwn(t *testing.T) {
	_, s := fewStore(t)
	is(t, api.OK, s.Mark())
	x := s.Table()
	b, d := s.Base()
	k, _ := s.Marked()
	x[0], b[0], k[0], d[0] = entryOf(4, 4, 44), entryOf(4, 4, 44), entryOf(4, 4, 44), 44
	if s.Table() != few() {
		t.Error(s.Table())
	}
	based(t, s, few(), dirFrom(10))
	marked(t, s, few(), true)
}

// P10.2

func TestGet(t *testing.T) {
	_, s := fewStore(t)
	gets(t, s, 0, object(1, 0, lineOf(20)), api.OK)
	gets(t, s, 1, object(2, 5, lineOf(21)), api.OK)
	gets(t, s, 7, object(3, 1, lineOf(22)), api.OK)
	gets(t, s, 30, object(4, topVersion, lineOf(23)), api.OK)
	gets(t, s, 48, object(1, 2, lineOf(24)), api.OK)
	for _, id := range append(far(), 49, 50, 64) {
		gets(t, s, id, api.Object{}, api.ErrArg)
	}
	for _, id := range []int{2, 3, 4, 6, 8, 29, 31, 47} {
		gets(t, s, id, api.Object{}, api.ErrNone)
	}
}

func TestGetWithoutPower(t *testing.T) {
	m, s := fewStore(t)
	off(t, m)
	for _, id := range []int{0, 1, 7, 30, 48} {
		gets(t, s, id, api.Object{}, api.ErrPower)
	}
	gets(t, s, 2, api.Object{}, api.ErrNone)
	gets(t, s, 49, api.Object{}, api.ErrArg)
	gets(t, s, -1, api.Object{}, api.ErrArg)
	m.Crash(nil)
	gets(t, s, 0, object(1, 0, lineOf(20)), api.OK)
}

func TestNames(t *testing.T) {
	_, s := fewStore(t)
	for _, rights := range []int{0, 1, 15} {
		for _, badge := range []int{0, 1, 65535} {
			names(t, s, capOf(1, rights, 0, 0, badge), 0, api.OK)
			names(t, s, capOf(2, rights, 1, 5, badge), 1, api.OK)
			names(t, s, capOf(3, rights, 7, 1, badge), 7, api.OK)
			names(t, s, capOf(4, rights, 30, topVersion, badge), 30, api.OK)
			names(t, s, capOf(1, rights, 48, 2, badge), 48, api.OK)
		}
	}
}

func TestNamesOfNoCapability(t *testing.T) {
	_, s := fewStore(t)
	for _, c := range []uint64{0, math.MaxUint64, capOf(0, 15, 0, 0, 0), capOf(7, 0, 0, 0, 0), capOf(15, 0, 0, 0, 0), capOf(1, 0, 49, 0, 0), capOf(1, 15, 65535, 0, 0), capOf(2, 0, 49, 5, 0)} {
		names(t, s, c, 0, api.ErrKind)
	}
	// A bank and a clock are to no object; with a number or a version they are no capabilities at all.
	for _, kind := range []int{5, 6} {
		for _, rights := range []int{0, 2, 15} {
			names(t, s, capOf(kind, rights, 0, 0, 0), 0, api.ErrKind)
			names(t, s, capOf(kind, rights, 0, 0, 9), 0, api.ErrKind)
			names(t, s, capOf(kind, rights, 1, 5, 0), 0, api.ErrKind)
			names(t, s, capOf(kind, rights, 2, 9, 0), 0, api.ErrKind)
		}
	}
}

func TestNamesOfWhatIsNotThere(t *testing.T) {
	_, s := fewStore(t)
	// Another version, older or newer: ahead of whether the object is there, and of which kind.
	for _, v := range []int{0, 4, 6, topVersion} {
		names(t, s, capOf(2, 15, 1, v, 0), 0, api.ErrStale)
		names(t, s, capOf(1, 15, 1, v, 0), 0, api.ErrStale)
		names(t, s, capOf(1, 15, 2, v, 0), 0, api.ErrStale)
	}
	names(t, s, capOf(1, 15, 4, 1, 0), 0, api.ErrStale)
	for kind := 1; kind <= 4; kind++ {
		names(t, s, capOf(kind, 15, 2, 9, 0), 0, api.ErrNone)
		names(t, s, capOf(kind, 15, 3, topVersion, 0), 0, api.ErrNone)
		names(t, s, capOf(kind, 15, 4, 0, 0), 0, api.ErrNone)
		names(t, s, capOf(kind, 15, 46, 0, 0), 0, api.ErrNone)
		if kind != 2 {
			names(t, s, capOf(kind, 15, 1, 5, 0), 0, api.ErrKind)
		}
		if kind != 1 {
			names(t, s, capOf(kind, 15, 48, 2, 0), 0, api.ErrKind)
		}
	}
}

// Names asks the working table: what was ended is named no more, what is made is named at once.
func TestNamesOfWhatEndsAndIsMade(t *testing.T) {
	_, s := fewStore(t)
	is(t, api.OK, s.Mark(), s.End(1))
	names(t, s, capOf(2, 15, 1, 5, 0), 0, api.ErrStale)
	names(t, s, capOf(2, 15, 1, 6, 0), 0, api.ErrNone)
	makes(t, s, api.KindNode, 1, api.OK)
	names(t, s, capOf(2, 15, 1, 5, 0), 0, api.ErrStale)
	names(t, s, capOf(2, 15, 1, 6, 0), 1, api.OK)
	names(t, s, capOf(1, 15, 1, 6, 0), 0, api.ErrKind)
	// The last version: what was ended has none that is newer.
	is(t, api.OK, s.End(30))
	names(t, s, capOf(4, 15, 30, topVersion, 0), 0, api.ErrNone)
}

// It does not ask the memory.
func TestNamesWithoutPower(t *testing.T) {
	m, s := fewStore(t)
	off(t, m)
	names(t, s, capOf(2, 0, 1, 5, 0), 1, api.OK)
	names(t, s, capOf(2, 0, 1, 4, 0), 0, api.ErrStale)
	names(t, s, 0, 0, api.ErrKind)
}

// P10.3

func TestSetOfTheBasesLine(t *testing.T) {
	m, s := fewStore(t)
	is(t, api.OK, s.Set(48, 7, 99))
	stands(t, s, 48, entryOf(1, 2, 18))
	left(t, s, fewLeft-1)
	gets(t, s, 48, object(1, 2, with(lineOf(24), 7, 99)), api.OK)
	holds(t, m, 24, lineOf(24))
	based(t, s, few(), dirFrom(10))
	// A copy is eight stores, and a word of an own line one.
	if m.Steps() != 8 {
		t.Errorf("%d steps", m.Steps())
	}
	is(t, api.OK, s.Set(48, 7, 98), s.Set(48, 0, 97))
	stands(t, s, 48, entryOf(1, 2, 18))
	left(t, s, fewLeft-1)
	gets(t, s, 48, object(1, 2, with(with(lineOf(24), 7, 98), 0, 97)), api.OK)
	if m.Steps() != 10 {
		t.Errorf("%d steps", m.Steps())
	}
	// The others are where they were.
	if s.Table() != put(few(), 48, entryOf(1, 2, 18)) {
		t.Error(s.Table())
	}
}

// Each word of each kind's objects, with the least and the greatest value.
func TestSetOfEachWord(t *testing.T) {
	for _, id := range []int{0, 1, 7, 30, 48} {
		for word := range 8 {
			for _, v := range []uint64{0, 1, 1 << 63, math.MaxUint64} {
				_, s := fewStore(t)
				own := few()[id]
				is(t, api.OK, s.Set(id, word, v))
				gets(t, s, id, object(own.Kind, own.Version, with(lineOf(own.Line), word, v)), api.OK)
				is(t, api.OK, s.Set(id, 7-word, v))
				gets(t, s, id, object(own.Kind, own.Version, with(with(lineOf(own.Line), word, v), 7-word, v)), api.OK)
				stands(t, s, id, entryOf(own.Kind, own.Version, 18))
			}
		}
	}
}

// The copy's words are stored one behind the other, from the first on: what is kept of them tells.
func TestSetStoresWordsInOrder(t *testing.T) {
	for kept := range 9 {
		m, s := fewStore(t)
		is(t, api.OK, s.Set(0, 3, 7))
		m.Crash([]int{kept})
		want, whole := lineOf(18), with(lineOf(20), 3, 7)
		copy(want[:kept], whole[:kept])
		holds(t, m, 18, want)
		holds(t, m, 20, lineOf(20))
	}
}

// A word that is what it was already is stored all the same.
func TestSetOfTheSameWord(t *testing.T) {
	m, s := fewStore(t)
	is(t, api.OK, s.Set(0, 3, lineOf(20)[3]))
	stands(t, s, 0, entryOf(1, 0, 18))
	left(t, s, fewLeft-1)
	is(t, api.OK, s.Set(0, 3, lineOf(20)[3]))
	if m.Steps() != 9 {
		t.Errorf("%d steps", m.Steps())
	}
}

func TestSetRefused(t *testing.T) {
	m, s := fewStore(t)
	for _, word := range append(far(), 8, 9, 64) {
		for _, id := range []int{0, 48, 2, 47, 49, -1, math.MinInt, math.MaxInt} {
			is(t, api.ErrArg, s.Set(id, word, 1))
		}
	}
	for _, id := range append(far(), 49, 50) {
		is(t, api.ErrArg, s.Set(id, 0, 1), s.Set(id, 7, 1))
	}
	for _, id := range []int{2, 3, 4, 47} {
		is(t, api.ErrNone, s.Set(id, 0, 1), s.Set(id, 7, 1))
	}
	if s.Table() != few() || s.Left() != fewLeft || m.Steps() != 0 {
		t.Error("something changed")
	}
}

// A line of the base, of the marked table, of both, or an object's own: once and again, ahead of Mark and behind it.
func TestSetAndMark(t *testing.T) {
	m, s := fewStore(t)
	is(t, api.OK, s.Set(0, 0, 1)) // its own: 18
	is(t, api.OK, s.Mark())
	left(t, s, fewLeft-1)
	// The object 0 is in a line of the marked table alone.
	is(t, api.OK, s.Set(0, 0, 2))
	stands(t, s, 0, entryOf(1, 0, 19))
	left(t, s, fewLeft-2)
	holds(t, m, 18, with(lineOf(20), 0, 1))
	is(t, api.OK, s.Set(0, 1, 3))
	stands(t, s, 0, entryOf(1, 0, 19))
	left(t, s, fewLeft-2)
	// The object 1 is in a line that the base and the marked table have.
	is(t, api.OK, s.Set(1, 0, 4))
	stands(t, s, 1, entryOf(2, 5, 25))
	is(t, api.OK, s.Set(1, 0, 5))
	stands(t, s, 1, entryOf(2, 5, 25))
	left(t, s, fewLeft-3)
	holds(t, m, 21, lineOf(21))
	// Behind Abort the object 7 is in a line that the base alone has; the objects 0 and 1 in their own.
	is(t, api.OK, s.Abort())
	left(t, s, fewLeft-2)
	is(t, api.OK, s.Set(0, 0, 6), s.Set(1, 0, 7))
	left(t, s, fewLeft-2)
	is(t, api.OK, s.Set(7, 0, 8))
	stands(t, s, 7, entryOf(3, 1, 18))
	holds(t, m, 22, lineOf(22))
}

func TestSetBehindCommit(t *testing.T) {
	m, s := fewStore(t)
	is(t, api.OK, s.Set(0, 0, 1), s.Mark(), s.Commit(dirFrom(10)))
	// The line 18 is the base's, as its own was committed.
	is(t, api.OK, s.Set(0, 0, 2))
	holds(t, m, 18, with(lineOf(20), 0, 1))
	stands(t, s, 0, entryOf(1, 0, 19))
	gets(t, s, 0, object(1, 0, with(lineOf(20), 0, 2)), api.OK)
}

func TestSetWithTheLastFrame(t *testing.T) {
	m, s := fewStore(t)
	drain(t, s, 1)
	is(t, api.OK, s.Set(0, 0, 1))
	left(t, s, 0)
	stands(t, s, 0, entryOf(1, 0, 63))
	is(t, api.OK, s.Set(0, 1, 2))
	steps := m.Steps()
	is(t, api.ErrFull, s.Set(1, 0, 1), s.Set(48, 7, 1), s.Set(48, 7, 1))
	is(t, api.ErrArg, s.Set(1, 8, 1), s.Set(49, 0, 1))
	is(t, api.ErrNone, s.Set(2, 0, 1))
	if m.Steps() != steps || s.Table() != put(few(), 0, entryOf(1, 0, 63)) {
		t.Error("something changed")
	}
	// That there is no frame is told ahead of the memory's error; an own line needs none.
	off(t, m)
	is(t, api.ErrFull, s.Set(1, 0, 1))
	is(t, api.ErrPower, s.Set(0, 0, 1))
}

// With the power off a line that is to be copied is not loaded: no frame is taken.
func TestSetWithoutPower(t *testing.T) {
	m, s := fewStore(t)
	is(t, api.OK, s.Set(0, 0, 1))
	off(t, m)
	is(t, api.ErrPower, s.Set(0, 0, 2), s.Set(1, 0, 2), s.Set(1, 0, 2))
	is(t, api.ErrArg, s.Set(0, 8, 2), s.Set(49, 0, 2))
	is(t, api.ErrNone, s.Set(2, 0, 2))
	left(t, s, fewLeft-1)
	stands(t, s, 1, few()[1])
}

// The power goes off on the way of a Set: the frame stays taken, the object is where it was.
func TestSetWhenThePowerGoesOff(t *testing.T) {
	for n := range 8 {
		m, s := fewStore(t)
		m.Fuse(n)
		is(t, api.ErrPower, s.Set(0, 2, 7))
		if m.On() || m.Steps() != n || s.Table() != few() {
			t.Errorf("fuse %d: on %v, %d steps, %v", n, m.On(), m.Steps(), s.Table())
		}
		left(t, s, fewLeft-1)
		m.Crash([]int{n})
		gets(t, s, 0, object(1, 0, lineOf(20)), api.OK)
		// The next one takes the frame behind.
		is(t, api.OK, s.Set(0, 2, 8))
		stands(t, s, 0, entryOf(1, 0, 19))
		left(t, s, fewLeft-2)
		is(t, api.OK, s.Mark(), s.Abort())
		left(t, s, fewLeft-1)
		takes(t, s, 18, api.OK)
	}
	m, s := fewStore(t)
	m.Fuse(8)
	is(t, api.OK, s.Set(0, 2, 7))
	stands(t, s, 0, entryOf(1, 0, 18))
	is(t, api.ErrPower, s.Set(0, 2, 8))
	left(t, s, fewLeft-1)
	m.Crash([]int{-1})
	stands(t, s, 0, entryOf(1, 0, 18))
}

func TestRoomOfNoNumbers(t *testing.T) {
	_, s := fewStore(t)
	for _, ids := range [][]int{nil, {}, {2}, {3, 4, 47}, {-1, 49, math.MinInt, math.MaxInt}, append(far(), 49, 2)} {
		for _, more := range []int{0, 1, fewLeft - 1, fewLeft} {
			room(t, s, ids, more, true)
		}
		for _, more := range []int{fewLeft + 1, 64, 1 << 32, math.MaxInt - 1, math.MaxInt, -1, -2, -fewLeft, math.MinInt, math.MinInt + 1} {
			room(t, s, ids, more, false)
		}
	}
}

func TestRoomOfObjects(t *testing.T) {
	_, s := fewStore(t)
	for _, c := range []struct {
		ids  []int
		need int
	}{
		{[]int{0}, 1}, {[]int{48}, 1}, {[]int{0, 0}, 1}, {[]int{0, 0, 0, 0}, 1}, {[]int{0, 1}, 2}, {[]int{1, 0, 1, 0, 2, 49, -1}, 2},
		{[]int{0, 1, 7, 30, 48}, 5}, {[]int{48, 30, 7, 1, 0, 0, 1, 7, 30, 48, 47, 3}, 5},
	} {
		room(t, s, c.ids, 0, true)
		room(t, s, c.ids, fewLeft-c.need, true)
		room(t, s, c.ids, fewLeft-c.need+1, false)
		for _, more := range []int{math.MaxInt, math.MaxInt - 1, math.MaxInt - c.need, -1, math.MinInt} {
			room(t, s, c.ids, more, false)
		}
	}
}

func TestRoomOfOwnLines(t *testing.T) {
	_, s := fewStore(t)
	is(t, api.OK, s.Set(0, 0, 1), s.Set(7, 0, 1))
	makes(t, s, api.KindPage, 2, api.OK)
	drain(t, s, 1)
	room(t, s, []int{0, 7, 2, 0}, 1, true)
	room(t, s, []int{0, 7, 2, 0}, 2, false)
	room(t, s, []int{0, 7, 2, 1}, 0, true)
	room(t, s, []int{0, 7, 2, 1}, 1, false)
	room(t, s, []int{1, 48}, 0, false)
	is(t, api.OK, s.Mark())
	// Now they are the marked table's.
	room(t, s, []int{0}, 0, true)
	room(t, s, []int{0}, 1, false)
	room(t, s, []int{0, 7}, 0, false)
	room(t, s, []int{0, 2}, 0, false)
	is(t, api.OK, s.End(7))
	room(t, s, []int{0, 7}, 0, true)
	drain(t, s, 0)
	room(t, s, []int{0}, 0, false)
	room(t, s, []int{7}, 0, true)
	room(t, s, nil, 0, true)
	room(t, s, nil, 1, false)
	room(t, s, nil, -1, false)
	is(t, api.OK, s.Abort())
	room(t, s, []int{0, 2}, s.Left(), true)
	room(t, s, []int{0, 2}, s.Left()+1, false)
}

func TestRoomOfAll(t *testing.T) {
	_, s := of(t, 1024, 0, all(8), dirFrom(0))
	var ids []int
	for id := range 49 {
		ids = append(ids, id, 48-id)
	}
	room(t, s, ids, 1024-8-98, true)
	room(t, s, ids, 1024-8-97, false)
	_, s = of(t, 64, 7, all(15), dirFrom(7))
	room(t, s, ids, 0, false)
	room(t, s, []int{48}, 0, false)
	room(t, s, nil, 0, true)
}

// Room tells whether Sets will do: just so many frames are used.
func TestRoomIsWhatSetsNeed(t *testing.T) {
	for n := range 7 {
		_, s := fewStore(t)
		drain(t, s, n)
		ids := []int{0, 1, 7, 30, 48}
		want := n >= 5
		room(t, s, ids, 0, want)
		good := true
		for _, id := range append(ids, ids...) {
			good = s.Set(id, 0, 1) == api.OK && good
		}
		if good != want {
			t.Errorf("with %d frames all words are set: %v", n, good)
		}
	}
}

// P10.4

func TestNext(t *testing.T) {
	_, s := fewStore(t)
	for _, kind := range []int{api.KindPage, api.KindNode, api.KindGate} {
		nexts(t, s, kind, 2, 9, api.OK)
	}
	for _, kind := range append(far(), api.KindNone, api.KindThread, api.KindBank, api.KindClock, 7, 16, 17) {
		nexts(t, s, kind, 0, 0, api.ErrArg)
		makes(t, s, kind, 0, api.ErrArg)
	}
	left(t, s, fewLeft)
	if s.Table() != few() {
		t.Error(s.Table())
	}
	makes(t, s, api.KindGate, 2, api.OK)
	// The number 3 has had all versions.
	nexts(t, s, api.KindPage, 4, 0, api.OK)
}

func TestNextOfATableThatIsFull(t *testing.T) {
	for id := range 49 {
		x := all(8)
		for _, v := range []int{0, 1, topVersion - 1} {
			_, s := of(t, 64, 0, put(x, id, entryOf(0, v, 0)), dirFrom(0))
			nexts(t, s, api.KindPage, id, v, api.OK)
			makes(t, s, api.KindNode, id, api.OK)
			stands(t, s, id, entryOf(2, v, s.Table()[id].Line))
			nexts(t, s, api.KindPage, 0, 0, api.ErrTable)
		}
		// A number whose versions are used up is not open.
		m, s := of(t, 64, 0, put(x, id, entryOf(0, topVersion, 0)), dirFrom(0))
		nexts(t, s, api.KindPage, 0, 0, api.ErrTable)
		nexts(t, s, api.KindThread, 0, 0, api.ErrArg)
		makes(t, s, api.KindGate, 0, api.ErrTable)
		makes(t, s, api.KindNone, 0, api.ErrArg)
		left(t, s, 8)
		// That is told ahead of there being no frame, or no power.
		drain(t, s, 0)
		off(t, m)
		makes(t, s, api.KindGate, 0, api.ErrTable)
		makes(t, s, api.KindThread, 0, api.ErrArg)
	}
	_, s := of(t, 64, 0, all(8), dirFrom(0))
	nexts(t, s, api.KindPage, 0, 0, api.ErrTable)
	makes(t, s, api.KindPage, 0, api.ErrTable)
}

func TestMake(t *testing.T) {
	for _, kind := range []int{api.KindPage, api.KindNode, api.KindGate} {
		m, s := fewStore(t)
		makes(t, s, kind, 2, api.OK)
		stands(t, s, 2, entryOf(kind, 9, 18))
		gets(t, s, 2, object(kind, 9, api.Line{}), api.OK)
		left(t, s, fewLeft-1)
		if m.Steps() != 8 {
			t.Errorf("%d steps", m.Steps())
		}
		makes(t, s, kind, 4, api.OK)
		stands(t, s, 4, entryOf(kind, 0, 19))
		makes(t, s, kind, 5, api.OK)
		stands(t, s, 5, entryOf(kind, 0, 25))
		// It is its own line.
		is(t, api.OK, s.Set(5, 6, 7))
		stands(t, s, 5, entryOf(kind, 0, 25))
		gets(t, s, 5, object(kind, 0, api.Line{6: 7}), api.OK)
		left(t, s, fewLeft-3)
		based(t, s, few(), dirFrom(10))
	}
}

func TestMakeStoresNoughtsInOrder(t *testing.T) {
	for kept := range 9 {
		m, s := fewStore(t)
		makes(t, s, api.KindPage, 2, api.OK)
		m.Crash([]int{kept})
		want := lineOf(18)
		clear(want[:kept])
		holds(t, m, 18, want)
	}
}

func TestMakeWithTheLastFrame(t *testing.T) {
	m, s := fewStore(t)
	drain(t, s, 1)
	makes(t, s, api.KindPage, 2, api.OK)
	left(t, s, 0)
	x := s.Table()
	for range 2 {
		makes(t, s, api.KindPage, 0, api.ErrFull)
		nexts(t, s, api.KindPage, 4, 0, api.OK)
	}
	off(t, m)
	makes(t, s, api.KindPage, 0, api.ErrFull)
	if s.Table() != x || m.Steps() != 8 {
		t.Error("something changed")
	}
}

// The power goes off on the way of a Make: the frame stays taken, there is no object.
func TestMakeWhenThePowerGoesOff(t *testing.T) {
	for n := range 8 {
		m, s := fewStore(t)
		m.Fuse(n)
		makes(t, s, api.KindNode, 0, api.ErrPower)
		if m.On() || m.Steps() != n || s.Table() != few() {
			t.Errorf("fuse %d: on %v, %d steps, %v", n, m.On(), m.Steps(), s.Table())
		}
		left(t, s, fewLeft-1)
		// There is nothing to be loaded ahead of the frame: one more is taken.
		makes(t, s, api.KindNode, 0, api.ErrPower)
		left(t, s, fewLeft-2)
		m.Crash(nil)
		makes(t, s, api.KindNode, 2, api.OK)
		stands(t, s, 2, entryOf(2, 9, 25))
		is(t, api.OK, s.Mark(), s.Commit(dirFrom(10)))
		left(t, s, fewLeft-1)
		takes(t, s, 18, api.OK)
		takes(t, s, 19, api.OK)
	}
}

func TestEnd(t *testing.T) {
	_, s := fewStore(t)
	for _, id := range append(far(), 49, 50) {
		is(t, api.ErrArg, s.End(id))
	}
	for _, id := range []int{2, 3, 4, 47} {
		is(t, api.ErrNone, s.End(id))
	}
	if s.Table() != few() {
		t.Error(s.Table())
	}
	// The base's lines stay taken.
	is(t, api.OK, s.End(0), s.End(1), s.End(7), s.End(30), s.End(48))
	left(t, s, fewLeft)
	want := few()
	want[0], want[1], want[7], want[30], want[48] = entryOf(0, 1, 0), entryOf(0, 6, 0), entryOf(0, 2, 0), entryOf(0, topVersion, 0), entryOf(0, 3, 0)
	if s.Table() != want {
		t.Error(s.Table())
	}
	is(t, api.ErrNone, s.End(0), s.End(30), s.End(48))
	based(t, s, few(), dirFrom(10))
}

func TestEndOfAnOwnLine(t *testing.T) {
	_, s := fewStore(t)
	is(t, api.OK, s.Set(0, 0, 1))
	makes(t, s, api.KindGate, 2, api.OK)
	left(t, s, fewLeft-2)
	is(t, api.OK, s.End(0))
	left(t, s, fewLeft-1)
	is(t, api.OK, s.End(2))
	left(t, s, fewLeft)
	stands(t, s, 2, entryOf(0, 10, 0))
	// The next one made there is another one, of the next version, in the line that is free again.
	makes(t, s, api.KindPage, 0, api.OK)
	stands(t, s, 0, entryOf(1, 1, 18))
}

func TestEndOfAMarkedLine(t *testing.T) {
	m, s := fewStore(t)
	is(t, api.OK, s.Set(0, 0, 1))
	makes(t, s, api.KindGate, 2, api.OK)
	is(t, api.OK, s.Mark())
	x, _ := s.Marked()
	is(t, api.OK, s.End(0), s.End(2), s.End(1))
	left(t, s, fewLeft-2)
	// Behind Mark it has a line of its own again: that is free at once.
	is(t, api.OK, s.Set(48, 0, 1))
	left(t, s, fewLeft-3)
	is(t, api.OK, s.End(48))
	left(t, s, fewLeft-2)
	marked(t, s, x, true)
	holds(t, m, 18, with(lineOf(20), 0, 1))
	holds(t, m, 19, api.Line{})
	is(t, api.OK, s.Abort())
	left(t, s, fewLeft)
}

// An own line whose object ends needs no power, and no step.
func TestEndWithoutPower(t *testing.T) {
	m, s := fewStore(t)
	is(t, api.OK, s.Set(0, 0, 1))
	off(t, m)
	is(t, api.OK, s.End(0), s.End(1))
	left(t, s, fewLeft)
	is(t, api.ErrNone, s.End(0))
	is(t, api.ErrArg, s.End(49))
}

// An object that ends and is made again, till its versions are used up.
func TestTheLastVersions(t *testing.T) {
	x := put(all(8), 20, entryOf(0, topVersion-2, 0))
	_, s := of(t, 64, 0, x, dirFrom(0))
	for v := topVersion - 2; v < topVersion; v++ {
		nexts(t, s, api.KindPage, 20, v, api.OK)
		makes(t, s, api.KindPage, 20, api.OK)
		stands(t, s, 20, entryOf(1, v, s.Table()[20].Line))
		is(t, api.OK, s.End(20))
		stands(t, s, 20, entryOf(0, v+1, 0))
	}
	nexts(t, s, api.KindPage, 0, 0, api.ErrTable)
	makes(t, s, api.KindPage, 0, api.ErrTable)
	left(t, s, 8)
}

// P10.5

func TestMark(t *testing.T) {
	_, s := fewStore(t)
	is(t, api.ErrState, s.Commit(dirFrom(30)), s.Abort())
	based(t, s, few(), dirFrom(10))
	is(t, api.OK, s.Set(0, 0, 1))
	x := s.Table()
	is(t, api.OK, s.Mark())
	marked(t, s, x, true)
	is(t, api.OK, s.Set(0, 0, 2), s.End(1))
	is(t, api.ErrState, s.Mark(), s.Mark())
	marked(t, s, x, true)
	based(t, s, few(), dirFrom(10))
	is(t, api.OK, s.Abort())
	marked(t, s, radix.Table{}, false)
	is(t, api.ErrState, s.Abort(), s.Commit(dirFrom(30)))
	based(t, s, few(), dirFrom(10))
	is(t, api.OK, s.Mark())
	marked(t, s, s.Table(), true)
}

func TestTake(t *testing.T) {
	m, s := fewStore(t)
	free := []int{18, 19}
	for line := 25; line < 64; line++ {
		free = append(free, line)
	}
	for i, line := range free {
		left(t, s, len(free)-i)
		takes(t, s, line, api.OK)
	}
	for range 2 {
		takes(t, s, 0, api.ErrFull)
		left(t, s, 0)
	}
	if m.Steps() != 0 || s.Table() != few() {
		t.Error("something changed")
	}
	off(t, m)
	takes(t, s, 0, api.ErrFull)
	is(t, api.OK, s.Mark(), s.Abort())
	takes(t, s, 18, api.OK)
}

// Whatever was taken and is named by nothing is free behind an Abort.
func TestAbort(t *testing.T) {
	_, s := fewStore(t)
	is(t, api.OK, s.Set(0, 0, 1))                // 18
	makes(t, s, api.KindPage, 2, api.OK)         // 19
	is(t, api.OK, s.Mark())                      // 18 and 19 are marked
	is(t, api.OK, s.Set(0, 0, 2))                // 25
	is(t, api.OK, s.End(2))                      // 19 is the marked table's still
	makes(t, s, api.KindPage, 2, api.OK)         // 26
	is(t, api.OK, s.Set(1, 0, 3), s.End(1))      // 27, and free again
	is(t, api.OK, s.End(48))                     // 24 is the base's
	takes(t, s, 27, api.OK)                      // a leaf, say
	takes(t, s, 28, api.OK)                      //
	left(t, s, fewLeft-6)                        // 18, 19, 25, 26, 27, 28
	want := s.Table()                            //
	is(t, api.OK, s.Abort())                     // 18, 19, 27 and 28 are free
	left(t, s, fewLeft-2)                        // 25 and 26 are the working table's
	based(t, s, few(), dirFrom(10))              //
	marked(t, s, radix.Table{}, false)           //
	for _, line := range []int{18, 19, 27, 28} { // in this order
		takes(t, s, line, api.OK)
	}
	if s.Table() != want {
		t.Errorf("Table = %v, want %v", s.Table(), want)
	}
}

func TestCommit(t *testing.T) {
	m, s := fewStore(t)
	is(t, api.OK, s.Set(0, 0, 1))        // 18
	makes(t, s, api.KindPage, 2, api.OK) // 19
	is(t, api.OK, s.End(48))             // 24 is the base's
	is(t, api.OK, s.Mark())
	x := s.Table()
	is(t, api.OK, s.Set(0, 0, 2))        // 25
	is(t, api.OK, s.End(2))              // 19 is the marked table's
	is(t, api.OK, s.Set(1, 0, 3))        // 26
	makes(t, s, api.KindNode, 2, api.OK) // 27
	takes(t, s, 28, api.OK)              // a leaf
	takes(t, s, 29, api.OK)              // the root
	takes(t, s, 30, api.OK)              // of nothing
	left(t, s, fewLeft-8)
	d := dirFrom(10)
	d[0], d[7] = 28, 29
	working := s.Table()
	is(t, api.OK, s.Commit(d))
	based(t, s, x, d)
	marked(t, s, radix.Table{}, false)
	if s.Table() != working {
		t.Error(s.Table())
	}
	// Free are 30, which nothing names, and what the old base alone had: 10 and 17 of its Dir, and 20 and 24 of its objects.
	left(t, s, fewLeft-8+5)
	for _, line := range []int{10, 17, 20, 24, 30, 31} {
		takes(t, s, line, api.OK)
	}
	is(t, api.ErrState, s.Commit(dirFrom(40)), s.Abort())
	based(t, s, x, d)
	// The new base's lines are not changed, and none of them is free.
	holds(t, m, 18, with(lineOf(20), 0, 1))
	holds(t, m, 19, api.Line{})
	is(t, api.OK, s.Set(30, 0, 1), s.Set(7, 0, 1), s.End(0), s.End(1), s.End(2))
	holds(t, m, 18, with(lineOf(20), 0, 1))
	holds(t, m, 19, api.Line{})
	holds(t, m, 21, lineOf(21))
	holds(t, m, 22, lineOf(22))
	holds(t, m, 23, lineOf(23))
}

// Commit and Abort do no step: they need no power.
func TestCommitWithoutPower(t *testing.T) {
	m, s := fewStore(t)
	is(t, api.OK, s.Set(0, 0, 1))
	off(t, m)
	is(t, api.OK, s.Mark(), s.Abort(), s.Mark(), s.Commit(dirFrom(10)))
	left(t, s, fewLeft)
	if m.Steps() != 8 {
		t.Errorf("%d steps", m.Steps())
	}
}

// A Dir may have any numbers: those of no frame name none, and a frame that was not taken is not taken by it.
func TestCommitOfAnyDir(t *testing.T) {
	for _, line := range append(far(), 0, 9, 64, 1023, 1024) {
		_, s := fewStore(t)
		var d objects.Dir
		for i := range d {
			d[i] = line
		}
		is(t, api.OK, s.Mark(), s.Commit(d))
		based(t, s, few(), d)
		left(t, s, fewLeft+8)
		is(t, api.OK, s.Mark(), s.Abort())
		left(t, s, fewLeft+8)
	}
	_, s := fewStore(t)
	is(t, api.OK, s.Mark(), s.Commit(dirFrom(30)))
	left(t, s, fewLeft+8)
	takes(t, s, 10, api.OK)
}

// What is committed again and again leaves no frame behind.
func TestManyCommits(t *testing.T) {
	_, s := fewStore(t)
	for i := range 200 {
		is(t, api.OK, s.Set(i%2, i%8, uint64(i)), s.Mark(), s.Set(0, 0, 1), s.Set(30, 0, 1))
		var d objects.Dir
		for k := range d {
			line, e := s.Take()
			is(t, api.OK, e)
			d[k] = line
		}
		is(t, api.OK, s.Commit(d))
		// The objects 0 and 30 have lines of their own beside the base's.
		left(t, s, fewLeft-2)
	}
}

// A clone, and what each of the two then does, is the other's no matter.
func TestClone(t *testing.T) {
	m, s := fewStore(t)
	is(t, api.OK, s.Set(0, 0, 1), s.Mark(), s.Set(0, 0, 2))
	x, working := s.Table(), s.Table()
	x[0] = entryOf(1, 0, 18)
	other := m.Clone()
	c := s.Clone(other)
	if c.Table() != working || c.Left() != fewLeft-2 {
		t.Error(c.Table(), c.Left())
	}
	marked(t, c, x, true)
	based(t, c, few(), dirFrom(10))

	is(t, api.OK, c.Set(0, 1, 3), c.Set(1, 0, 4), c.End(48))
	makes(t, c, api.KindPage, 2, api.OK)
	is(t, api.OK, c.Commit(dirFrom(10)))
	if s.Table() != working {
		t.Error(s.Table())
	}
	left(t, s, fewLeft-2)
	marked(t, s, x, true)
	based(t, s, few(), dirFrom(10))
	gets(t, s, 0, object(1, 0, with(lineOf(20), 0, 2)), api.OK)
	holds(t, m, 19, with(lineOf(20), 0, 2))
	holds(t, m, 25, lineOf(25))

	kept := c.Table()
	is(t, api.OK, s.Set(0, 2, 5), s.Set(7, 0, 6), s.Abort())
	drain(t, s, 0)
	left(t, c, fewLeft-3)
	if c.Table() != kept {
		t.Error(c.Table())
	}
	based(t, c, x, dirFrom(10))
	gets(t, c, 0, object(1, 0, with(with(lineOf(20), 0, 2), 1, 3)), api.OK)
	holds(t, other, 26, api.Line{})
}

// A clone has what was taken, too, and no mark that is not there.
func TestCloneOfFrames(t *testing.T) {
	m, s := fewStore(t)
	drain(t, s, 3)
	c := s.Clone(m.Clone())
	left(t, c, 3)
	marked(t, c, radix.Table{}, false)
	takes(t, c, 61, api.OK)
	takes(t, s, 61, api.OK)
	is(t, api.OK, c.Mark())
	marked(t, s, radix.Table{}, false)
	is(t, api.ErrState, s.Abort())
	is(t, api.OK, c.Abort())
	left(t, c, fewLeft)
	left(t, s, 2)
}

// Two stores on one memory: a clone may be on the same one.
func TestCloneOnTheSameMemory(t *testing.T) {
	m, s := fewStore(t)
	c := s.Clone(m)
	is(t, api.OK, c.Set(0, 0, 1))
	stands(t, c, 0, entryOf(1, 0, 18))
	stands(t, s, 0, few()[0])
	holds(t, m, 18, with(lineOf(20), 0, 1))
}

// On a memory with fewer lines what is not there is the memory's error.
func TestCloneOnASmallerMemory(t *testing.T) {
	m, s := of(t, 128, 100, radix.Table{0: entryOf(1, 0, 110)}, dirFrom(100))
	c := s.Clone(memory(t, 64))
	gets(t, c, 0, api.Object{}, api.ErrArg)
	is(t, api.ErrArg, c.Set(0, 0, 1))
	makes(t, c, api.KindPage, 0, api.ErrArg)
	left(t, c, 18)
	is(t, api.OK, c.Mark(), c.Abort(), c.End(0))
	left(t, c, 19)
	left(t, s, 19)
	if m.Steps() != 0 {
		t.Errorf("%d steps", m.Steps())
	}
}

package rlog_test

import (
	"encoding/binary"
	"hash/crc32"
	"math"
	"math/rand"
	"slices"
	"sort"
	"testing"

	"steadfast/api"
	"steadfast/nvm"
	"steadfast/rlog"
)

const (
	top  = 1 << 40
	full = math.MaxUint64
	// steps are those of an Append that is done: nought, eight words, a flush, a fence.
	steps = 11
	// places is how many lines all logs have.
	places = 32
)

func rec(seq, id, word int, value uint64) api.Record {
	return api.Record{Seq: seq, Id: id, Word: word, Value: value}
}

// sealed lays seven words out with their sum behind, without the program's own packages.
func sealed(w ...uint64) api.Line {
	var l api.Line
	copy(l[:7], w)
	var b []byte
	for _, x := range l[:7] {
		b = binary.LittleEndian.AppendUint64(b, x)
	}
	l[7] = 1<<32 + uint64(crc32.ChecksumIEEE(b))
	return l
}

// lineOf is the chapter's line of a record, whether it may be or not.
func lineOf(r api.Record) api.Line {
	return sealed(0x10600000, uint64(r.Seq), uint64(r.Id), uint64(r.Word), r.Value)
}

// goodRecords are records that may be, each edge among them.
func goodRecords() []api.Record {
	all := []api.Record{rec(1, 5, 2, 9), rec(12345, 17, 3, 678), rec(1<<33, 30, 6, 1<<33)}
	for _, seq := range []int{1, 2, 1 << 32, top - 1, top} {
		for _, id := range []int{0, 1, 47, 48} {
			for _, word := range []int{0, 1, 6, 7} {
				for _, value := range []uint64{0, 1, 1 << 32, 1 << 63, full - 1, full} {
					all = append(all, rec(seq, id, word, value))
				}
			}
		}
	}
	return all
}

// outOf are numbers below least, and above most.
func outOf(least, most int) []int {
	return []int{least - 1, most + 1, least - 2, most + 2, -most, math.MinInt, math.MinInt + least + 1, math.MaxInt, 1<<62 + least, -1 << 32}
}

// badRecords are records that may not be: by one part alone, at each edge of the others, and by several.
func badRecords() []api.Record {
	all := []api.Record{{}, rec(0, 0, 0, full), rec(-1, -1, -1, 0), rec(top+1, 49, 8, 7), rec(math.MinInt, math.MaxInt, math.MinInt, full)}
	for _, r := range []api.Record{rec(1, 0, 0, 0), rec(top, 48, 7, full), rec(4, 30, 6, 2)} {
		for _, n := range outOf(1, top) {
			all = append(all, rec(n, r.Id, r.Word, r.Value))
		}
		for _, n := range append(outOf(0, 48), 1<<32, 1<<8, 64) {
			all = append(all, rec(r.Seq, n, r.Word, r.Value))
		}
		for _, n := range append(outOf(0, 7), 1<<32, 1<<8, 16) {
			all = append(all, rec(r.Seq, r.Id, n, r.Value))
		}
	}
	return all
}

// badLines are lines of no record.
func badLines() []api.Line {
	good := lineOf(rec(4, 30, 6, 2))
	all := []api.Line{
		{}, sealed(), {full, full, full, full, full, full, full, full}, {0x10600000}, {0x10600000, 4, 30, 6, 2},
		sealed(0x10600000), sealed(4, 30, 6, 2), sealed(0, 0x10600000, 4, 30, 6, 2), sealed(0x5afec0de, 4, 30, 6, 2),
	}
	for _, first := range []uint64{0, 1, 10600000, 0x10600001, 0x10600000 ^ 1<<31, 0x10600000 + 1<<32, 0x10600000 + 1<<63, 0x6010, 0x10600000 << 32, full} {
		all = append(all, sealed(first, 4, 30, 6, 2))
	}
	for _, w := range []uint64{1, 2, 0x10600000, 1 << 32, 1 << 63, full} {
		all = append(all, sealed(0x10600000, 4, 30, 6, 2, w, 0), sealed(0x10600000, 4, 30, 6, 2, 0, w), sealed(0x10600000, 4, 30, 6, 2, w, w))
	}
	for _, r := range badRecords() {
		all = append(all, lineOf(r))
	}
	for _, sum := range []uint64{0, 1 << 32, good[7] - 1<<32, good[7] + 1<<32, good[7] + 1<<63, good[7] + 1, ^good[7], full} {
		l := good
		l[7] = sum
		all = append(all, l)
	}
	return all
}

// read asks Read, and that none stands beside false.
func read(t *testing.T, l api.Line) (api.Record, bool) {
	t.Helper()
	r, ok := rlog.Read(l)
	if !ok && r != (api.Record{}) {
		t.Errorf("Read(%x) = %v beside false", l, r)
	}
	return r, ok
}

// at is the n-th line of a core's log, as the chapter's words count it.
func at(core, n int) int {
	return 2 + 4*core + n
}

// fresh is a memory in which these lines have these records, all of it sure; the others have none.
func fresh(t *testing.T, records map[int]api.Record) *nvm.Memory {
	t.Helper()
	l := make([]api.Line, 64)
	for i := range l {
		l[i] = api.Line{uint64(i), 7: uint64(i) << 40}
	}
	for i, r := range records {
		l[i] = lineOf(r)
	}
	m, e := nvm.Of(l)
	if e != api.OK {
		t.Fatal(e)
	}
	return m
}

// logOf lays records out one behind the other in a core's log.
func logOf(core int, records ...api.Record) map[int]api.Record {
	all := map[int]api.Record{}
	for n, r := range records {
		all[at(core, n)] = r
	}
	return all
}

func scans(t *testing.T, m *nvm.Memory, cores int, want ...api.Record) {
	t.Helper()
	if got, e := rlog.Scan(m, cores); e != api.OK || !slices.Equal(got, want) {
		t.Errorf("Scan(%d) = %v, %v, want %v", cores, got, e, want)
	}
}

func noScan(t *testing.T, m *nvm.Memory, cores int, want api.Errno) {
	t.Helper()
	if got, e := rlog.Scan(m, cores); e != want || len(got) != 0 {
		t.Errorf("Scan(%d) = %v, %v, want %v", cores, got, e, want)
	}
}

func free(t *testing.T, m *nvm.Memory, core, seq, line int, want api.Errno) {
	t.Helper()
	if got, e := rlog.Free(m, core, seq); got != line || e != want {
		t.Errorf("Free(%d, %d) = %d, %v, want %d, %v", core, seq, got, e, line, want)
	}
}

func appends(t *testing.T, want api.Errno, m *nvm.Memory, core, seq int, r api.Record) {
	t.Helper()
	if e := rlog.Append(m, core, seq, r); e != want {
		t.Errorf("Append(%d, %d, %v) = %v, want %v", core, seq, r, e, want)
	}
}

func load(t *testing.T, m *nvm.Memory, line int) api.Line {
	t.Helper()
	l, e := m.Load(line)
	if e != api.OK {
		t.Fatalf("Load(%d): %v", line, e)
	}
	return l
}

// unchanged asks that nothing was done to m, whose sure lines were so.
func unchanged(t *testing.T, m *nvm.Memory, was []api.Line) {
	t.Helper()
	if !m.On() || m.Steps() != 0 {
		t.Errorf("On %v, Steps %d: something was done", m.On(), m.Steps())
	}
	for i, l := range was {
		if got := load(t, m, i); got != l {
			t.Errorf("the line %d is %x, was %x", i, got, l)
		}
	}
	if !slices.Equal(m.Sure(), was) {
		t.Error("what is sure was changed")
	}
}

// first is old with the first n stores of an Append of r done.
func first(old api.Line, r api.Record, n int) api.Line {
	l := lineOf(r)
	if n > 0 {
		old[7] = 0
	}
	for i := 1; i < n; i++ {
		old[i-1] = l[i-1]
	}
	return old
}

// The chapter's examples.

func TestExamples(t *testing.T) {
	if a, b := rlog.Place(0, 0), rlog.Place(2, 3); a != 2 || b != 13 {
		t.Errorf("Place(0, 0) = %d, Place(2, 3) = %d", a, b)
	}
	m, _ := nvm.New(64)
	r := api.Record{Seq: 1, Id: 5, Word: 2, Value: 9}
	appends(t, api.OK, m, 0, 0, r)
	scans(t, m, 1, r)
	for range 3 {
		appends(t, api.OK, m, 0, 0, r)
	}
	appends(t, api.ErrLog, m, 0, 0, r)
	scans(t, m, 1, r, r, r, r)
}

func TestPlace(t *testing.T) {
	next := 2
	for core := range 8 {
		for n := range 4 {
			if got := rlog.Place(core, n); got != next {
				t.Errorf("Place(%d, %d) = %d, want %d", core, n, got, next)
			}
			next++
		}
	}
	for _, c := range [][3]int{{-1, 0, -2}, {0, -2, 0}, {8, 0, 34}, {0, 4, 6}, {100, 1000, 1402}, {1 << 40, 1, 1<<42 + 3}, {1 << 62, 5, 7}, {0, math.MaxInt, math.MinInt + 1}} {
		if got := rlog.Place(c[0], c[1]); got != c[2] {
			t.Errorf("Place(%d, %d) = %d, want %d", c[0], c[1], got, c[2])
		}
	}
}

// P6.1

func TestLineOfKnownRecord(t *testing.T) {
	want := api.Line{0x10600000, 1, 5, 2, 9, 0, 0, lineOf(rec(1, 5, 2, 9))[7]}
	if got, e := rlog.Line(rec(1, 5, 2, 9)); got != want || e != api.OK {
		t.Errorf("Line = %x, %v, want %x", got, e, want)
	}
}

func TestLineAndReadOfAllThatMayBe(t *testing.T) {
	for _, r := range goodRecords() {
		l, e := rlog.Line(r)
		if want := lineOf(r); l != want || e != api.OK {
			t.Errorf("Line(%v) = %x, %v, want %x", r, l, e, want)
		}
		if got, ok := read(t, lineOf(r)); got != r || !ok {
			t.Errorf("Read of the line of %v = %v, %v", r, got, ok)
		}
	}
}

func TestLineRefusesWhatMayNotBe(t *testing.T) {
	for _, r := range badRecords() {
		if l, e := rlog.Line(r); l != (api.Line{}) || e != api.ErrArg {
			t.Errorf("Line(%v) = %x, %v, want ErrArg", r, l, e)
		}
	}
}

func TestLineAtEachEdge(t *testing.T) {
	for _, c := range []struct {
		part        string
		change      func(*api.Record, int)
		least, most int
	}{
		{"Seq", func(r *api.Record, n int) { r.Seq = n }, 1, 1 << 40},
		{"Id", func(r *api.Record, n int) { r.Id = n }, 0, 48},
		{"Word", func(r *api.Record, n int) { r.Word = n }, 0, 7},
	} {
		for _, n := range []int{c.least - 1, c.least, c.least + 1, c.most - 1, c.most, c.most + 1} {
			r := rec(5, 6, 7, 8)
			c.change(&r, n)
			want, code := lineOf(r), api.OK
			if n < c.least || n > c.most {
				want, code = api.Line{}, api.ErrArg
			}
			if l, e := rlog.Line(r); l != want || e != code {
				t.Errorf("%s %d: Line = %x, %v, want %x, %v", c.part, n, l, e, want, code)
			}
			got, ok := read(t, lineOf(r))
			if ok != (code == api.OK) || ok && got != r {
				t.Errorf("%s %d: Read = %v, %v", c.part, n, got, ok)
			}
		}
	}
}

func TestReadRefusesLinesOfNone(t *testing.T) {
	for _, l := range badLines() {
		if r, ok := read(t, l); ok {
			t.Errorf("Read(%x) = %v", l, r)
		}
	}
}

func TestReadRefusesTurnedBytes(t *testing.T) {
	for _, r := range []api.Record{rec(1, 0, 0, 0), rec(top, 48, 7, full), rec(4, 30, 6, 2)} {
		for i := range api.Words {
			for shift := 0; shift < 64; shift += 8 {
				for turn := uint64(1); turn < 256; turn++ {
					l := lineOf(r)
					l[i] ^= turn << shift
					if got, ok := read(t, l); ok {
						t.Errorf("the word %d of the line of %v turned by %x: %v", i, r, turn<<shift, got)
					}
				}
			}
		}
	}
}

// P6.2

func TestScanByRisingSeq(t *testing.T) {
	a, b, c, d := rec(1, 48, 7, 4), rec(2, 3, 3, 3), rec(1<<32, 2, 2, 2), rec(top, 0, 0, 1)
	for _, order := range [][]api.Record{{a, b, c, d}, {d, c, b, a}, {c, a, d, b}, {b, d, a, c}} {
		scans(t, fresh(t, logOf(0, order...)), 1, a, b, c, d)
		apart := fresh(t, map[int]api.Record{at(0, 3): order[0], at(2, 1): order[1], at(5, 0): order[2], at(7, 2): order[3]})
		scans(t, apart, 8, a, b, c, d)
	}
}

func TestScanOfTheSameSeqByRisingLines(t *testing.T) {
	records := map[int]api.Record{
		at(0, 0): rec(6, 9, 1, 10), at(0, 1): rec(5, 9, 1, 11), at(0, 3): rec(5, 1, 0, 12),
		at(1, 0): rec(5, 9, 1, 13), at(3, 2): rec(5, 0, 0, 0), at(3, 3): rec(6, 0, 0, 0),
		at(7, 0): rec(4, 8, 7, 14), at(7, 3): rec(5, 9, 1, 11),
	}
	scans(t, fresh(t, records), 8,
		rec(4, 8, 7, 14),
		rec(5, 9, 1, 11), rec(5, 1, 0, 12), rec(5, 9, 1, 13), rec(5, 0, 0, 0), rec(5, 9, 1, 11),
		rec(6, 9, 1, 10), rec(6, 0, 0, 0))
	scans(t, fresh(t, records), 2, rec(5, 9, 1, 11), rec(5, 1, 0, 12), rec(5, 9, 1, 13), rec(6, 9, 1, 10))
}

func TestScanOfAllPlacesWithOneSeq(t *testing.T) {
	records := map[int]api.Record{}
	var want []api.Record
	for i := range places {
		r := rec(77, i*7%49, i%8, uint64(places-i))
		records[2+i] = r
		want = append(want, r)
	}
	m := fresh(t, records)
	for cores := 1; cores <= 8; cores++ {
		scans(t, m, cores, want[:4*cores]...)
	}
}

func TestScanOfTheCoresAskedForAlone(t *testing.T) {
	for core := range 8 {
		for n := range 4 {
			r := rec(3, core, n, 9)
			m := fresh(t, map[int]api.Record{at(core, n): r})
			for cores := 1; cores <= 8; cores++ {
				if cores > core {
					scans(t, m, cores, r)
				} else {
					scans(t, m, cores)
				}
			}
		}
	}
}

func TestScanOfTheLogsAlone(t *testing.T) {
	records := map[int]api.Record{}
	for _, line := range []int{0, 1, 34, 35, 63} {
		records[line] = rec(1+line, 0, 0, 0)
	}
	scans(t, fresh(t, records), 8)
	records[at(7, 3)] = rec(50, 1, 1, 1)
	scans(t, fresh(t, records), 8, rec(50, 1, 1, 1))
}

func TestScanLeavesOutLinesOfNone(t *testing.T) {
	before, behind := rec(9, 1, 2, 3), rec(8, 4, 5, 6)
	bad := badLines()
	for k := 1; k < 9; k++ {
		bad = append(bad, first(lineOf(rec(3, 3, 3, 3)), rec(4, 4, 4, 4), k))
	}
	for _, l := range bad {
		m := fresh(t, map[int]api.Record{at(0, 0): before, at(0, 2): behind})
		for i, w := range l {
			m.Store(at(0, 1), i, w)
		}
		scans(t, m, 1, behind, before)
	}
}

func TestScanAsksWhatALineHas(t *testing.T) {
	r := rec(4, 30, 6, 2)
	m := fresh(t, nil)
	for i, w := range lineOf(r) {
		scans(t, m, 3)
		m.Store(at(2, 1), i, w)
	}
	scans(t, m, 3, r) // though it is not sure yet
	m.Crash(nil)
	scans(t, m, 3)
}

func TestScanRefusesCores(t *testing.T) {
	m := fresh(t, logOf(0, rec(1, 0, 0, 0)))
	was := m.Sure()
	for _, cores := range []int{0, 9, -1, 10, 1 << 32, 1<<32 + 1, 1<<8 + 1, math.MinInt, math.MaxInt} {
		noScan(t, m, cores, api.ErrArg)
	}
	unchanged(t, m, was)
	m.Fuse(0)
	m.Fence(0)
	noScan(t, m, 0, api.ErrArg) // named ahead of the power
	noScan(t, m, 9, api.ErrArg)
}

func TestScanChangesNothing(t *testing.T) {
	r, s := rec(2, 1, 1, 1), rec(1, 2, 2, 2)
	m := fresh(t, logOf(0, r, s))
	was := m.Sure()
	got, _ := rlog.Scan(m, 1)
	for i := range got {
		got[i] = api.Record{}
	}
	m.Fuse(0) // no step: the power stays on
	scans(t, m, 1, s, r)
	unchanged(t, m, was)
}

// P6.3

func TestFreeOfEmptyLogs(t *testing.T) {
	m := fresh(t, nil)
	was := m.Sure()
	for core := range 8 {
		for _, seq := range []int{0, 1, -1, top, math.MinInt, math.MaxInt} {
			free(t, m, core, seq, at(core, 0), api.OK)
		}
	}
	m.Fuse(0) // no step: the power stays on
	free(t, m, 0, 0, 2, api.OK)
	unchanged(t, m, was)
}

func TestFreeByTheSeqAskedFor(t *testing.T) {
	for _, n := range []int{1, 2, 7, 1 << 32, top - 1, top} {
		for core := range 8 {
			for place := range 4 {
				records := logOf(core, rec(top, 0, 0, 0), rec(top, 0, 0, 0), rec(top, 0, 0, 0), rec(top, 0, 0, 0))
				records[at(core, place)] = rec(n, 1, 1, 1)
				m := fresh(t, records)
				free(t, m, core, n-1, 0, api.ErrLog)
				if n < top {
					free(t, m, core, n, at(core, place), api.OK)
				}
				free(t, m, core, top, at(core, 0), api.OK)
				free(t, m, core, math.MaxInt, at(core, 0), api.OK)
				for _, seq := range []int{0, -1, -n, math.MinInt} {
					free(t, m, core, seq, 0, api.ErrLog)
				}
			}
		}
	}
}

func TestFreeIsTheFirst(t *testing.T) {
	for core := range 8 {
		m := fresh(t, logOf(core, rec(9, 0, 0, 0), rec(5, 0, 0, 0), rec(6, 0, 0, 0), rec(4, 0, 0, 0)))
		for seq, n := range []int{-1, -1, -1, -1, 3, 1, 1, 1, 1, 0, 0} {
			if n < 0 {
				free(t, m, core, seq, 0, api.ErrLog)
			} else {
				free(t, m, core, seq, at(core, n), api.OK)
			}
		}
		// A place without a record stands in its own order among those whose record may go.
		m = fresh(t, map[int]api.Record{at(core, 0): rec(9, 0, 0, 0), at(core, 1): rec(5, 0, 0, 0), at(core, 3): rec(4, 0, 0, 0)})
		free(t, m, core, 0, at(core, 2), api.OK)
		free(t, m, core, 4, at(core, 2), api.OK)
		free(t, m, core, 5, at(core, 1), api.OK)
		free(t, m, core, 9, at(core, 0), api.OK)
	}
}

func TestFreeTakesLinesOfNone(t *testing.T) {
	for _, l := range badLines() {
		m := fresh(t, logOf(3, rec(9, 0, 0, 0), rec(9, 0, 0, 0), rec(9, 0, 0, 0), rec(9, 0, 0, 0)))
		for i, w := range l {
			m.Store(at(3, 2), i, w)
		}
		free(t, m, 3, 8, at(3, 2), api.OK)
		free(t, m, 3, -5, at(3, 2), api.OK)
	}
}

func TestFreeAsksTheLogOfItsCoreAlone(t *testing.T) {
	for core := range 8 {
		all, own := map[int]api.Record{}, map[int]api.Record{}
		for line := range 64 {
			if line < at(core, 0) || line > at(core, 3) {
				all[line] = rec(7, 0, 0, 0)
			} else {
				own[line] = rec(7, 0, 0, 0)
			}
		}
		free(t, fresh(t, all), core, 0, at(core, 0), api.OK)
		free(t, fresh(t, own), core, 6, 0, api.ErrLog)
	}
}

// badCores are numbers of no core.
func badCores() []int {
	return []int{-1, 8, 9, -2, 1 << 32, 1 << 8, 1 << 62, math.MinInt, math.MaxInt}
}

func TestFreeRefusesCores(t *testing.T) {
	m := fresh(t, nil)
	was := m.Sure()
	for _, core := range badCores() {
		free(t, m, core, 0, 0, api.ErrArg)
	}
	unchanged(t, m, was)
	m.Fuse(0)
	m.Fence(0)
	for _, core := range badCores() {
		free(t, m, core, 0, 0, api.ErrArg) // named ahead of the power
	}
}

// P6.4

func TestAppendMakesTheLineSure(t *testing.T) {
	for _, r := range []api.Record{rec(1, 0, 0, 0), rec(4, 30, 6, 2), rec(top, 48, 7, full)} {
		for core := range api.MaxCores {
			for n := range 4 {
				records := logOf(core, rec(9, 1, 1, 1), rec(9, 2, 2, 2), rec(9, 3, 3, 3), rec(9, 4, 4, 4))
				records[at(core, n)] = rec(8, 5, 5, 5)
				m := fresh(t, records)
				want := m.Sure()
				want[at(core, n)] = lineOf(r)
				appends(t, api.OK, m, core, 8, r)
				if !slices.Equal(m.Sure(), want) {
					t.Errorf("behind Append(%d, 8, %v) to the place %d is sure: %x", core, r, n, m.Sure()[2:34])
				}
				if m.Steps() != steps {
					t.Errorf("Append made %d steps, want %d", m.Steps(), steps)
				}
			}
		}
	}
}

func TestAppendStoresInOrder(t *testing.T) {
	r := rec(4, 30, 6, 2)
	for _, old := range []api.Line{{}, {9, 8, 7, 6, 5, 4, 3, 2}, lineOf(rec(3, 20, 5, 1))} {
		for off := range steps {
			for k := range min(off, 9) + 1 {
				l := fresh(t, nil).Sure()
				l[at(1, 0)] = old
				m, _ := nvm.Of(l)
				l[at(1, 0)] = first(old, r, k)
				m.Fuse(off)
				appends(t, api.ErrPower, m, 1, 3, r)
				if m.On() || m.Steps() != off {
					t.Errorf("a fuse of %d: On %v, Steps %d", off, m.On(), m.Steps())
				}
				m.Crash([]int{k})
				if !slices.Equal(m.Sure(), l) {
					t.Errorf("behind %d steps, of which %d stores are kept, is sure: %x, want %x", off, k, m.Sure()[at(1, 0)], l[at(1, 0)])
				}
			}
		}
	}
}

func TestAppendUnderAFuseThatLasts(t *testing.T) {
	r := rec(4, 30, 6, 2)
	for _, more := range []int{0, 1, 5} {
		m := fresh(t, nil)
		m.Fuse(steps + more)
		appends(t, api.OK, m, 3, 0, r)
		scans(t, m, 4, r)
		for range more {
			if e := m.Fence(0); e != api.OK {
				t.Errorf("a fuse of %d: %v", steps+more, e)
			}
		}
		if e := m.Fence(0); e != api.ErrPower {
			t.Errorf("a fuse of %d burns on: %v", steps+more, e)
		}
	}
}

func TestAppendFencesForItsCoreAlone(t *testing.T) {
	for core := range api.MaxCores {
		m := fresh(t, nil)
		for other := range api.MaxCores {
			m.Store(40+other, 3, 99)
			m.Flush(other, 40+other)
		}
		m.Store(50, 3, 99) // flushed by nobody
		appends(t, api.OK, m, core, 0, rec(4, 30, 6, 2))
		sure := m.Sure()
		for other := range api.MaxCores {
			if got := sure[40+other][3] == 99; got != (other == core) {
				t.Errorf("Append by %d: what %d has flushed is sure: %v", core, other, got)
			}
		}
		if sure[50][3] != 0 {
			t.Errorf("Append by %d makes sure what nobody has flushed", core)
		}
	}
}

func TestAppendFillsALogInOrder(t *testing.T) {
	m := fresh(t, nil)
	var all []api.Record
	for n := range 4 {
		for core := range 8 {
			r := rec(1+8*n+core, core, n, uint64(core*n))
			all = append(all, r)
			appends(t, api.OK, m, core, 0, r)
			if got := load(t, m, at(core, n)); got != lineOf(r) {
				t.Errorf("the %d-th record of the core %d: its line is %x", n, core, got)
			}
			scans(t, m, 8, all...)
		}
	}
	was := m.Sure()
	for core := range 8 {
		appends(t, api.ErrLog, m, core, 0, rec(99, 0, 0, 0))
		appends(t, api.ErrLog, m, core, core, rec(99, 0, 0, 0)) // its first one has the number core + 1
	}
	if m.Steps() != 32*steps || !slices.Equal(m.Sure(), was) {
		t.Errorf("an Append to a full log has done something: %d steps", m.Steps())
	}
	for core := range 8 {
		appends(t, api.OK, m, core, core+1, rec(99, core, 0, 0))
		if got := load(t, m, at(core, 0)); got != lineOf(rec(99, core, 0, 0)) {
			t.Errorf("the first place of the core %d is not used again: %x", core, got)
		}
	}
}

func TestAppendTellsTheFirstError(t *testing.T) {
	good := rec(4, 30, 6, 2)
	m := fresh(t, logOf(1, good, good, good, good))
	was := m.Sure()
	refuse := func() {
		t.Helper()
		for _, core := range badCores() {
			appends(t, api.ErrArg, m, core, 0, good)
			appends(t, api.ErrArg, m, core, 0, api.Record{})
		}
	}
	refuse()
	m.Fuse(0) // a record or a core that may not be burns nothing
	refuse()
	for _, r := range badRecords() {
		appends(t, api.ErrArg, m, 0, 0, r)
		appends(t, api.ErrLog, m, 1, 3, r)
		appends(t, api.ErrArg, m, 1, 4, r)
	}
	appends(t, api.ErrLog, m, 1, 3, good)
	unchanged(t, m, was)
	appends(t, api.ErrPower, m, 0, 0, good)
	if m.On() || m.Steps() != 0 {
		t.Errorf("a fuse of 0: On %v, Steps %d", m.On(), m.Steps())
	}
	refuse()
	for _, core := range []int{0, 1} {
		appends(t, api.ErrPower, m, core, 3, api.Record{}) // Free's error, ahead of the record's
		appends(t, api.ErrPower, m, core, 3, good)
	}
	m.Crash([]int{9, 9})
	unchanged(t, m, was)
}

func TestWithoutPower(t *testing.T) {
	r := rec(4, 30, 6, 2)
	m := fresh(t, logOf(0, r))
	was := m.Sure()
	m.Fuse(0)
	m.Fence(0)
	for n := range 8 {
		noScan(t, m, n+1, api.ErrPower)
		free(t, m, n, 9, 0, api.ErrPower)
		appends(t, api.ErrPower, m, n, 9, r)
	}
	m.Crash([]int{1, 1, 1})
	unchanged(t, m, was)
	scans(t, m, 1, r)
}

// P6.5

// keeps are nothing, each part, everything, and numbers that count modulo.
func keeps() [][]int {
	all := [][]int{nil, {}, {-1}, {-10}, {10}, {math.MinInt}, {math.MaxInt}}
	for k := range 10 {
		all = append(all, []int{k}, []int{k, 0}, []int{0, k}, []int{k, 3, k})
	}
	return all
}

// ordered are the records of these lines as Scan is to tell them.
func ordered(records map[int]api.Record) []api.Record {
	var lines []int
	for line := range records {
		lines = append(lines, line)
	}
	sort.Slice(lines, func(i, j int) bool {
		a, b := lines[i], lines[j]
		if records[a].Seq != records[b].Seq {
			return records[a].Seq < records[b].Seq
		}
		return a < b
	})
	var all []api.Record
	for _, line := range lines {
		all = append(all, records[line])
	}
	return all
}

// with are these records, with r in a line; none, if r is none.
func with(records map[int]api.Record, line int, r api.Record) map[int]api.Record {
	all := map[int]api.Record{}
	for i, x := range records {
		all[i] = x
	}
	delete(all, line)
	if r != (api.Record{}) {
		all[line] = r
	}
	return all
}

// cameTo is what of the three ways an Append to a line may come to was scanned; false, if none was.
func cameTo(t *testing.T, m *nvm.Memory, records map[int]api.Record, line int, r api.Record, e api.Errno) (map[int]api.Record, bool) {
	t.Helper()
	got, code := rlog.Scan(m, 8)
	if code != api.OK {
		t.Fatalf("Scan: %v", code)
	}
	ways := []map[int]api.Record{with(records, line, r)}
	if e != api.OK {
		ways = append(ways, with(records, line, api.Record{}), records)
	}
	for _, way := range ways {
		if slices.Equal(got, ordered(way)) {
			return way, true
		}
	}
	t.Errorf("Append of %v to the line %d = %v: of %v was scanned %v", r, line, e, ordered(records), got)
	return nil, false
}

func TestPowerGoesOffAtEachStep(t *testing.T) {
	next := rec(7, 33, 5, 9)
	around := map[int]api.Record{at(1, 3): rec(7, 1, 1, 1), at(2, 1): rec(6, 2, 2, 2), at(3, 0): rec(9, 3, 3, 3), at(2, 3): next}
	for _, n := range []int{0, 2} {
		if n == 2 {
			around = with(around, at(2, 0), rec(6, 4, 4, 4))
		}
		// An empty place, and records that are used again: others, and ones alike but for their Seq.
		for _, old := range []api.Record{{}, rec(5, 20, 3, 8), rec(1, 33, 5, 9), rec(5, 33, 5, 9), rec(5, 0, 0, full)} {
			for off := range steps + 2 {
				for _, keep := range keeps() {
					offAt(t, with(around, at(2, n), old), n, off, next, keep)
				}
			}
		}
	}
}

// offAt lets the power go off behind so many steps of an Append by the core 2, and looks at what Scan tells.
func offAt(t *testing.T, records map[int]api.Record, n, off int, next api.Record, keep []int) {
	t.Helper()
	m := fresh(t, records)
	line := at(2, n)
	old := load(t, m, line)
	free(t, m, 2, 5, line, api.OK)
	m.Fuse(off)
	e := rlog.Append(m, 2, 5, next)
	if done := off >= steps; done != (e == api.OK) || !done && e != api.ErrPower {
		t.Fatalf("a fuse of %d: Append = %v", off, e)
	}
	m.Crash(keep)
	way, ok := cameTo(t, m, records, line, next, e)
	if !ok {
		t.FailNow()
	}
	stores := min(off, 9)
	if e == api.OK || len(keep) == 0 {
		return
	}
	k := keep[0]
	if k < 0 {
		k = -(k + 1)
	}
	kept := k % (stores + 1)
	if got := load(t, m, line); got != first(old, next, kept) {
		t.Fatalf("off at %d, kept %v: the line is %x", off, keep, got)
	}
	// Nothing kept is the old one, everything kept the new one; between, the place is empty.
	want := with(records, line, api.Record{})
	switch kept {
	case 0:
		want = records
	case 9:
		want = with(records, line, next)
	}
	if !slices.Equal(ordered(way), ordered(want)) {
		t.Fatalf("off at %d, kept %v: scanned %v, want %v", off, keep, ordered(way), ordered(want))
	}
}

func TestPowerGoesOffWhileTheSameRecordIsWritten(t *testing.T) {
	r := rec(5, 20, 3, 8)
	for off := range steps {
		for k := range 10 {
			m := fresh(t, logOf(4, r))
			m.Fuse(off)
			appends(t, api.ErrPower, m, 4, 5, r)
			m.Crash([]int{k})
			// Though only the sum was ever other, half of it is none.
			if kept := k % (min(off, 9) + 1); kept == 0 || kept == 9 {
				scans(t, m, 8, r)
			} else {
				scans(t, m, 8)
			}
		}
	}
}

func TestWhatWasAppendedOutlastsCrashes(t *testing.T) {
	m := fresh(t, nil)
	var all []api.Record
	for i := range places {
		r := rec(i+1, i, i%8, uint64(i)*1e9)
		appends(t, api.OK, m, i/4, 0, r)
		all = append(all, r)
		m.Crash(nil)
		scans(t, m, 8, all...)
		m.Fuse(i % steps)
		rlog.Append(m, (i/4+1)%8, 0, rec(top, 0, 0, 0)) // full, or its first place: on its way the power goes
		m.Crash(nil)
		scans(t, m, 8, all...)
	}
}

func TestPowerGoesOffAgainAndAgain(t *testing.T) {
	old, one, two, three := rec(5, 20, 3, 8), rec(6, 1, 1, 1), rec(7, 2, 2, 2), rec(8, 3, 3, 3)
	line := at(6, 0)
	for off := range steps {
		for again := range steps {
			for k := range 10 {
				for l := range 10 {
					records := logOf(6, old)
					m := fresh(t, records)
					m.Fuse(off)
					appends(t, api.ErrPower, m, 6, 5, one)
					m.Crash([]int{k})
					records, ok := cameTo(t, m, records, line, one, api.ErrPower)
					if !ok {
						t.FailNow()
					}
					m.Fuse(again)
					appends(t, api.ErrPower, m, 6, 6, two)
					m.Crash([]int{l})
					if _, ok = cameTo(t, m, records, line, two, api.ErrPower); !ok {
						t.FailNow()
					}
					appends(t, api.OK, m, 6, 7, three)
					m.Crash(nil)
					scans(t, m, 8, three)
				}
			}
		}
	}
}

// firstFree is the chapter's Free, of what each line has.
func firstFree(records map[int]api.Record, core, seq int) (int, bool) {
	for n := range 4 {
		if r, ok := records[at(core, n)]; !ok || r.Seq <= seq {
			return at(core, n), true
		}
	}
	return 0, false
}

func TestPlaysOfChance(t *testing.T) {
	chance := rand.New(rand.NewSource(6))
	for range 300 {
		records := map[int]api.Record{}
		m := fresh(t, nil)
		for seq := 1; seq < 80; seq++ {
			core, done := chance.Intn(8), max(seq-1-chance.Intn(24), 0)
			r := rec(max(seq-chance.Intn(3), 1), chance.Intn(49), chance.Intn(8), chance.Uint64())
			line, ok := firstFree(records, core, done)
			if !ok {
				free(t, m, core, done, 0, api.ErrLog)
				appends(t, api.ErrLog, m, core, done, r)
				continue
			}
			free(t, m, core, done, line, api.OK)
			m.Fuse(chance.Intn(40))
			e := rlog.Append(m, core, done, r)
			m.Crash([]int{chance.Int() - chance.Int(), chance.Int()})
			if records, ok = cameTo(t, m, records, line, r, e); !ok {
				t.FailNow()
			}
		}
	}
}

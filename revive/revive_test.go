package revive_test

import (
	"math"
	"slices"
	"testing"

	"steadfast/api"
	"steadfast/nvm"
	"steadfast/objects"
	"steadfast/radix"
	"steadfast/revive"
	"steadfast/rlog"
)

// far are numbers that are no cores, no kind, no version, no line.
func far() []int {
	return []int{-1, -2, -9, top, top + 1, 1 << 62, 1<<62 + 1, 1<<32 + 1, -1 << 32, math.MinInt, math.MinInt + 1, math.MaxInt - 1, math.MaxInt}
}

func entryOf(kind, version, line int) api.Entry {
	return api.Entry{Kind: kind, Version: version, Line: line}
}

// lineOf is what the line n has, if it is none of the image's: no two words are the same.
func lineOf(n int) api.Line {
	var l api.Line
	for w := range l {
		l[w] = uint64(1000*n + w + 1)
	}
	return l
}

func memoryOf(t *testing.T, l []api.Line) *nvm.Memory {
	t.Helper()
	m, e := nvm.Of(l)
	if e != api.OK {
		t.Fatal(e)
	}
	return m
}

// image is one that is laid out line by line: in a memory with 64 lines, of two cores.
type image struct {
	all []api.Line
	b   api.Super
	x   radix.Table
	d   objects.Dir
}

// few has an object of each kind, at both ends of the table, too; the numbers 2 and 47 had one; 3 has had all versions.
func few() image {
	i := image{b: api.Super{Gen: 4, Root: 17, Seq: 5, Cores: 2}, d: objects.Dir{16, 15, 14, 13, 12, 11, 10, 17}}
	i.x = radix.Table{
		0:  entryOf(api.KindPage, 0, 40),
		1:  entryOf(api.KindNode, 5, 19),
		2:  entryOf(api.KindNone, 9, 0),
		3:  entryOf(api.KindNone, topVersion, 0),
		7:  entryOf(api.KindThread, 1, 20),
		8:  entryOf(api.KindPage, topVersion, 63),
		30: entryOf(api.KindGate, topVersion, 21),
		47: entryOf(api.KindNone, 4, 0),
		48: entryOf(api.KindPage, 2, 22),
	}
	for n := range 64 {
		i.all = append(i.all, lineOf(n))
	}
	i.lay()
	return i
}

// lay lays the superblock, in the slot 1, and the directory out.
func (i *image) lay() {
	i.all[1] = superLine(i.b)
	for k := range 7 {
		i.all[i.d[k]] = leafLine(i.x, k)
	}
	i.all[i.d[7]] = rootLine(i.d)
}

// page has an image with one page, of one core.
func page() []api.Object {
	return []api.Object{{Kind: api.KindPage, L: api.Line{1, 2}}}
}

// some are n objects of all kinds, no two of which have the same line.
func some(n int) []api.Object {
	l := make([]api.Object, n)
	for id := range l {
		l[id] = api.Object{Kind: 1 + id%4, Version: id * 7, L: lineOf(2000 + id)}
	}
	return l
}

func formatted(t *testing.T, lines, cores int, l []api.Object) *nvm.Memory {
	t.Helper()
	m := noughts(t, lines)
	is(t, api.OK, revive.Format(m, cores, l))
	return m
}

func noughts(t *testing.T, lines int) *nvm.Memory {
	t.Helper()
	return memoryOf(t, make([]api.Line, lines))
}

func is(t *testing.T, want api.Errno, codes ...api.Errno) {
	t.Helper()
	for n, e := range codes {
		if e != want {
			t.Errorf("call %d answered %v, want %v", n, e, want)
		}
	}
}

// refuses holds that Boot tells an error, and has stored nothing.
func refuses(t *testing.T, m *nvm.Memory, want api.Errno) {
	t.Helper()
	was := lookAt(m)
	if a, _ := boots(t, m); a.e != want {
		t.Errorf("Boot tells %v, want %v", a.e, want)
	}
	still(t, m, was)
}

func appends(t *testing.T, m *nvm.Memory, core, seq int, r api.Record) {
	t.Helper()
	if e := rlog.Append(m, core, seq, r); e != api.OK {
		t.Fatalf("Append(%d, %d, %v) = %v", core, seq, r, e)
	}
}

// The chapter's examples.

func TestExamples(t *testing.T) {
	m := noughts(t, 64)
	refuses(t, m, api.ErrNoImage)
	is(t, api.OK, revive.Format(m, 1, page()))
	a, _ := boots(t, m)
	if a.l[0] != (api.Line{1, 2}) || a.next != 1 || a.b != (api.Super{Gen: 1, Root: 14, Cores: 1}) || a.slot != 0 {
		t.Errorf("Boot tells %v", a)
	}
	appends(t, m, 0, 0, api.Record{Seq: 1, Word: 3, Value: 9})
	a, _ = boots(t, m)
	if a.l[0] != (api.Line{1, 2, 0, 9}) || a.next != 2 {
		t.Errorf("Boot tells %v", a)
	}
}

// P12.1

func TestFrom(t *testing.T) {
	for _, x := range []struct{ cores, want int }{{0, 2}, {1, 6}, {2, 10}, {7, 30}, {8, 34}, {9, 38}, {-1, -2}, {1000, 4002}, {math.MinInt, 2}, {math.MaxInt, -2}, {1 << 60, 1<<62 + 2}, {1 << 61, math.MinInt + 2}} {
		if got := revive.From(x.cores); got != x.want {
			t.Errorf("From(%d) = %d, want %d", x.cores, got, x.want)
		}
	}
	for cores := range 9 {
		if got, behind := revive.From(cores), rlog.Place(cores, 0); got != behind {
			t.Errorf("From(%d) = %d, but the logs end at %d", cores, got, behind)
		}
	}
}

// P12.2

// refusesToFormat asks for an error, whatever the memory, and that nothing is changed.
func refusesToFormat(t *testing.T, m *nvm.Memory, cores int, l []api.Object, want api.Errno) {
	t.Helper()
	was, given := lookAt(m), slices.Clone(l)
	if e := formats(t, m, cores, l); e != want {
		t.Errorf("Format(m, %d, %d objects) = %v, want %v", cores, len(l), e, want)
	}
	still(t, m, was)
	if !slices.Equal(l, given) {
		t.Errorf("the objects are others now")
	}
}

// offMemory is one whose power is off.
func offMemory(t *testing.T, lines int) *nvm.Memory {
	t.Helper()
	m := noughts(t, lines)
	m.Fuse(0)
	is(t, api.ErrPower, m.Fence(0))
	return m
}

// wrong asks for ErrArg: of a memory that has room, of one that has none, with the power off.
func wrong(t *testing.T, cores int, l []api.Object) {
	t.Helper()
	refusesToFormat(t, noughts(t, 128), cores, l, api.ErrArg)
	refusesToFormat(t, memoryOf(t, few().all), cores, l, api.ErrArg)
	refusesToFormat(t, offMemory(t, 128), cores, l, api.ErrArg)
}

// wrongObject asks for ErrArg of an object alone, and as one of 49: for these 64 lines are too few, with 8 cores.
func wrongObject(t *testing.T, o api.Object) {
	t.Helper()
	wrong(t, 1, []api.Object{o})
	refusesToFormat(t, noughts(t, 64), 8, append(some(48), o), api.ErrArg)
	refusesToFormat(t, noughts(t, 64), 8, append([]api.Object{o}, some(48)...), api.ErrArg)
	refusesToFormat(t, noughts(t, 128), 1, slices.Insert(some(48), 20, o), api.ErrArg)
}

func TestFormatOfWrongCores(t *testing.T) {
	for _, cores := range append(far(), 0, 9, 10, 16, 64, 1<<61+1) {
		wrong(t, cores, nil)
		wrong(t, cores, page())
	}
}

func TestFormatOfTooManyObjects(t *testing.T) {
	for _, n := range []int{50, 51, 64, 1000} {
		wrong(t, 1, make([]api.Object, n))
		wrong(t, 8, some(n))
	}
}

func TestFormatOfWrongObjects(t *testing.T) {
	for _, n := range append(far(), 5, 6, 7, 15, 16, 17) {
		wrongObject(t, api.Object{Kind: n})
		wrongObject(t, api.Object{Kind: n, Version: 3, L: lineOf(1)})
	}
	for _, n := range append(far(), topVersion+1, topVersion+2, 1<<28) {
		for kind := range 5 {
			wrongObject(t, api.Object{Kind: kind, Version: n})
		}
	}
	for w := range 8 {
		for _, v := range []uint64{1, 1 << 32, 1 << 63, math.MaxUint64} {
			for _, version := range []int{0, 5, topVersion} {
				var l api.Line
				l[w] = v
				wrongObject(t, api.Object{Version: version, L: l})
			}
		}
	}
}

// At the edges of what may be, each kind with each of the versions at both ends, the line with what it may have.
func TestFormatAtTheEdges(t *testing.T) {
	for kind := range 5 {
		for _, version := range []int{0, 1, topVersion - 1, topVersion} {
			o := api.Object{Kind: kind, Version: version}
			if kind != 0 {
				o.L = api.Line{math.MaxUint64, 0, 1, 1 << 63, 7: math.MaxUint64}
			}
			for _, l := range [][]api.Object{{o}, append(some(48), o), append([]api.Object{o}, some(48)...)} {
				m := memoryOf(t, append(few().all, few().all...))
				is(t, api.OK, formats(t, m, 8, l))
				a, i := boots(t, m)
				at := slices.Index(l, o)
				if a.table[at].Kind != kind || a.table[at].Version != version || a.l[at] != o.L {
					t.Errorf("the object %d is %v, %v, want %v", at, a.table[at], a.l[at], o)
				}
				if got, e := i.Store.Get(at); kind != 0 && (got != o || e != api.OK) {
					t.Errorf("Get(%d) = %v, %v, want %v", at, got, e, o)
				}
			}
		}
	}
}

// With just as many lines as asked, and with one less: of all cores, with objects that are not there among those that are.
func TestFormatWithJustTheRoom(t *testing.T) {
	for cores := 1; cores <= 8; cores++ {
		for n := 0; n <= 49; n++ {
			l := some(n)
			for id := 0; len(l) < 49; id += 2 {
				l = slices.Insert(l, min(id, len(l)), api.Object{Version: 9})
			}
			need := 2 + 4*cores + n + 8
			if need-1 >= 64 {
				refusesToFormat(t, noughts(t, need-1), cores, l, api.ErrFull)
			}
			if need >= 64 {
				m := noughts(t, need)
				is(t, api.OK, formats(t, m, cores, l))
				if a, _ := boots(t, m); a.frames != 0 {
					t.Errorf("%d frames are left", a.frames)
				}
			}
		}
	}
}

func TestFormatWithoutRoom(t *testing.T) {
	for cores := 1; cores <= 8; cores++ {
		// So many are just as many as 64 lines have room for.
		most := min(49, 64-8-2-4*cores)
		is(t, api.OK, formats(t, noughts(t, 64), cores, some(most)))
		for n := most + 1; n <= 49; n++ {
			refusesToFormat(t, noughts(t, 64), cores, some(n), api.ErrFull)
			refusesToFormat(t, memoryOf(t, few().all), cores, some(n), api.ErrFull)
			// That there is no room is told ahead of the memory's error.
			refusesToFormat(t, offMemory(t, 64), cores, some(n), api.ErrFull)
		}
	}
}

func TestFormatWithThePowerOff(t *testing.T) {
	for cores := 1; cores <= 8; cores++ {
		for _, n := range []int{0, 1, 49} {
			refusesToFormat(t, offMemory(t, 128), cores, some(n), api.ErrPower)
		}
	}
}

// What stands where, line by line, all of it sure, and in how many steps.
func TestFormatLaysOut(t *testing.T) {
	for cores := 1; cores <= 8; cores++ {
		for _, n := range []int{0, 1, 2, 30, 48, 49} {
			old := make([]api.Line, 100)
			for line := range old {
				old[line] = lineOf(line)
			}
			m, l := memoryOf(t, old), some(n)
			if n == 30 {
				l[0], l[7], l[29] = api.Object{}, api.Object{Version: 5}, api.Object{Version: topVersion}
			}
			want := slices.Clone(old)
			from := 2 + 4*cores
			for line := range from {
				want[line][7] = 0
			}
			var x radix.Table
			next := from
			for id, o := range l {
				x[id] = api.Entry{Kind: o.Kind, Version: o.Version}
				if o.Kind != 0 {
					x[id].Line, want[next] = next, o.L
					next++
				}
			}
			var d objects.Dir
			for k := range 7 {
				d[k], want[next+k] = next+k, leafLine(x, k)
			}
			want[next+7] = rootLine(d)
			want[0] = superLine(api.Super{Gen: 1, Root: next + 7, Cores: cores})
			is(t, api.OK, revive.Format(m, cores, l))
			if got := lines(m); !slices.Equal(got, want) {
				t.Errorf("of %d cores and %d objects the lines are %v, want %v", cores, n, got, want)
			}
			if !slices.Equal(m.Sure(), want) {
				t.Errorf("of %d cores and %d objects not all is sure", cores, n)
			}
			if steps := 2*from + 1 + 9*(next+8-from) + 1 + 11; m.Steps() != steps || !m.On() {
				t.Errorf("of %d cores and %d objects there were %d steps, want %d", cores, n, m.Steps(), steps)
			}
		}
	}
}

// What is handed in is neither changed nor kept, nor the spare room behind its end.
func TestFormatLeavesTheListAsItIs(t *testing.T) {
	room := some(49)
	l := room[:20]
	m := noughts(t, 96)
	is(t, api.OK, formats(t, m, 2, l))
	if !slices.Equal(room, some(49)) {
		t.Errorf("the objects are others now")
	}
	was := lookAt(m)
	clear(room)
	still(t, m, was)
	if a, _ := boots(t, m); a.table[20] != (api.Entry{}) || a.l[19] != some(20)[19].L {
		t.Errorf("Boot tells %v", a)
	}
}

// dirty is a memory where old images, records and stores that are not sure stand.
func dirty(t *testing.T, gen int) *nvm.Memory {
	t.Helper()
	i := few()
	for n := 64; n < 110; n++ {
		i.all = append(i.all, lineOf(n))
	}
	i.b.Gen = gen
	i.lay()
	i.all[0] = superLine(api.Super{Gen: max(1, gen-1), Root: 17, Seq: 3, Cores: 8})
	for line := 2; line < 10; line++ {
		i.all[line] = recordLine(api.Record{Seq: top - line, Id: 48, Word: line % 8, Value: 77})
	}
	m := memoryOf(t, i.all)
	is(t, api.OK, m.Store(0, 3, 5), m.Store(1, 7, 6), m.Flush(0, 1), m.Store(1, 2, 9), m.Store(30, 7, 6), m.Flush(1, 30), m.Store(40, 0, 1), m.Flush(0, 40), m.Store(40, 7, 1), m.Store(100, 1, 1))
	return m
}

// Of what was in the memory ahead nothing comes back: no superblock, however great its generation, and no record.
func TestFormatOverAnOldImage(t *testing.T) {
	for _, gen := range []int{1, 2, 4, top} {
		for cores := 1; cores <= 8; cores++ {
			for _, n := range []int{0, 3, 49} {
				m := dirty(t, gen)
				is(t, api.OK, formats(t, m, cores, some(n)))
				for range 3 {
					a, _ := boots(t, m)
					if a.b != (api.Super{Gen: 1, Root: 2 + 4*cores + n + 7, Cores: cores}) || a.slot != 0 || a.next != 1 || a.table != a.base {
						t.Errorf("Boot tells %v", a)
					}
					for id := range n {
						if a.l[id] != some(n)[id].L {
							t.Errorf("the object %d has %v", id, a.l[id])
						}
					}
					m.Crash(nil)
				}
			}
		}
	}
}

// One image over another, with more cores, and with less.
func TestFormatAgain(t *testing.T) {
	for _, x := range [][2]int{{1, 8}, {8, 1}, {2, 3}, {3, 2}, {1, 1}, {8, 8}} {
		m := formatted(t, 128, x[0], some(40))
		for core := range x[0] {
			for n := range 4 {
				appends(t, m, core, 0, api.Record{Seq: 1 + 4*core + n, Id: 4 * n, Word: core, Value: 99})
			}
		}
		is(t, api.OK, formats(t, m, x[1], some(30)))
		a, _ := boots(t, m)
		if a.b.Cores != x[1] || a.next != 1 || a.table != a.base {
			t.Errorf("Boot tells %v", a)
		}
	}
}

// P12.3

// Of each line of the memory one bit in each word is turned: what has no good superblock is told, with nothing stored.
func TestBootOfNoImage(t *testing.T) {
	for _, b := range []api.Super{{Gen: 0, Root: 17, Cores: 2}, {Gen: top + 1, Root: 17, Cores: 2}, {Gen: 1, Root: 1024, Cores: 2}, {Gen: 1, Root: -1, Cores: 2}, {Gen: 1, Root: 17, Seq: top + 1, Cores: 2}, {Gen: 1, Root: 17, Seq: -1, Cores: 2}, {Gen: 1, Root: 17, Cores: 0}, {Gen: 1, Root: 17, Cores: 9}, {Gen: 1, Root: 17, Cores: -1}, {Gen: 1, Root: 17, Cores: math.MaxInt}} {
		i := few()
		i.all[1] = superLine(b)
		refuses(t, memoryOf(t, i.all), api.ErrNoImage)
	}
	for at := range 512 {
		i := few()
		i.all[1][at/64] ^= 1 << (at % 64)
		refuses(t, memoryOf(t, i.all), api.ErrNoImage)
	}
	// A superblock that stands elsewhere counts for nothing; nor does a root, a leaf or a record in a slot.
	i := few()
	for line := range 10 {
		i.all[line] = superLine(i.b)
	}
	i.all[0], i.all[1] = i.all[10], i.all[17]
	refuses(t, memoryOf(t, i.all), api.ErrNoImage)
	i.all[0], i.all[1] = recordLine(api.Record{Seq: 9}), api.Line{}
	refuses(t, memoryOf(t, i.all), api.ErrNoImage)
	for _, lines := range []int{64, 65, 1024} {
		refuses(t, noughts(t, lines), api.ErrNoImage)
	}
}

func TestBootWithThePowerOff(t *testing.T) {
	for _, l := range [][]api.Line{make([]api.Line, 64), few().all} {
		m := memoryOf(t, l)
		m.Fuse(0)
		is(t, api.ErrPower, m.Fence(0))
		refuses(t, m, api.ErrPower)
		m.Crash(nil)
		if a, _ := boots(t, m); a.e == api.ErrPower {
			t.Errorf("Boot tells the power is off")
		}
	}
}

// A memory that nvm did not make has no line: that there is no room, and that Find may not load, is told.
func TestOfAMemoryWithoutLines(t *testing.T) {
	var m nvm.Memory
	is(t, api.ErrArg, revive.Format(&m, 0, nil), revive.Format(&m, 1, make([]api.Object, 50)))
	is(t, api.ErrFull, revive.Format(&m, 1, nil), revive.Format(&m, 8, page()))
	if a, _ := tell(t, &m); a.e != api.ErrArg {
		t.Errorf("Boot tells %v", a)
	}
}

// A fuse that has burnt down is not seen, as long as nothing is stored.
func TestBootWithAFuse(t *testing.T) {
	i := few()
	m := memoryOf(t, i.all)
	m.Fuse(0)
	if a, _ := boots(t, m); !a.isThere || !m.On() {
		t.Errorf("Boot tells %v", a)
	}
}

// The image as it is laid out, each field of it.
func TestBootTells(t *testing.T) {
	i := few()
	m := memoryOf(t, i.all)
	was := lookAt(m)
	a, img := boots(t, m)
	if a.b != i.b || a.slot != 1 || a.next != 6 || a.table != i.x || a.base != i.x || a.dir != i.d || a.isMarked || a.frames != 54-8-6 {
		t.Errorf("Boot tells %v", a)
	}
	for id, own := range i.x {
		if own.Kind != 0 && a.l[id] != lineOf(own.Line) {
			t.Errorf("the object %d has %v", id, a.l[id])
		}
	}
	still(t, m, was)
	// The store is one of this memory: what is set there stands here.
	is(t, api.OK, img.Store.Set(1, 3, 5))
	l, _ := m.Load(img.Store.Table()[1].Line)
	if want := lineOf(19); l[3] != 5 || l[2] != want[2] || m.Steps() != 8 {
		t.Errorf("the node has %v", l)
	}
	// The first frame that is free is the first one behind the logs that nothing names.
	if line := img.Store.Table()[1].Line; line != 18 {
		t.Errorf("it is in the line %d", line)
	}
}

// The better one of both superblocks counts, in the slot where it stands.
func TestBootOfEitherSlot(t *testing.T) {
	i := few()
	other := objects.Dir{50, 51, 52, 53, 54, 55, 56, 57}
	x := radix.Table{5: entryOf(api.KindPage, 3, 60)}
	for k := range 7 {
		i.all[other[k]] = leafLine(x, k)
	}
	i.all[57] = rootLine(other)
	for _, c := range []struct{ first, second, slot int }{{5, 4, 0}, {4, 5, 1}, {4, 4, 0}, {1, top, 1}, {top, 1, 0}, {top, top, 0}, {0, 1, 1}, {1, 0, 0}, {top + 1, 1, 1}, {1, top + 1, 0}, {256, 3, 0}, {3, 1 << 32, 1}} {
		a, b := api.Super{Gen: c.first, Root: 57, Seq: 8, Cores: 1}, api.Super{Gen: c.second, Root: 17, Seq: 5, Cores: 2}
		i.all[0], i.all[1] = superLine(a), superLine(b)
		got, _ := boots(t, memoryOf(t, i.all))
		want, table, next := a, x, 9
		if c.slot == 1 {
			want, table, next = b, i.x, 6
		}
		if got.b != want || got.slot != c.slot || got.base != table || got.next != next {
			t.Errorf("of the generations %d and %d Boot tells %v", c.first, c.second, got)
		}
	}
	// It is not the other one's turn, if the better one's directory is bad.
	i.all[0], i.all[1] = superLine(api.Super{Gen: 5, Root: 58, Cores: 1}), superLine(i.b)
	refuses(t, memoryOf(t, i.all), api.ErrImage)
	i.all[0], i.all[1] = superLine(api.Super{Gen: 5, Root: 57, Cores: 1}), superLine(api.Super{Gen: 6, Root: 18, Cores: 1})
	refuses(t, memoryOf(t, i.all), api.ErrImage)
}

// The root is a line of the memory behind the logs of the superblock's cores, and reads as one.
func TestBootOfABadRoot(t *testing.T) {
	for root := range 1024 {
		if root == 17 {
			continue
		}
		i := few()
		i.b.Root = root
		i.all[1] = superLine(i.b)
		refuses(t, memoryOf(t, i.all), api.ErrImage)
	}
	for at := range 512 {
		i := few()
		i.all[17][at/64] ^= 1 << (at % 64)
		refuses(t, memoryOf(t, i.all), api.ErrImage)
	}
}

// With more cores the logs reach further: a line of the directory, or of an object, that is a log's is none.
func TestBootOfMoreCores(t *testing.T) {
	for cores := 1; cores <= 8; cores++ {
		i := few()
		i.b.Cores = cores
		i.all[1] = superLine(i.b)
		m := memoryOf(t, i.all)
		if cores > 2 {
			refuses(t, m, api.ErrImage)
			continue
		}
		if a, _ := boots(t, m); a.base != i.x || a.frames != 64-2-4*cores-14 {
			t.Errorf("of %d cores Boot tells %v", cores, a)
		}
	}
	// Each of them at the first frame, and a line ahead of it.
	for cores := 1; cores <= 8; cores++ {
		from := 2 + 4*cores
		for at := range 9 {
			for ahead := range 2 {
				i := image{b: api.Super{Gen: 1, Cores: cores}, all: make([]api.Line, 64), x: radix.Table{9: entryOf(api.KindPage, 0, from+8)}}
				for n := range i.d {
					i.d[n] = from + 9 + n
				}
				if at < 8 {
					i.d[at] = from - ahead
				} else {
					i.x[9].Line = from - ahead
				}
				i.b.Root = i.d[7]
				i.lay()
				m := memoryOf(t, i.all)
				if ahead == 1 {
					refuses(t, m, api.ErrImage)
				} else if a, _ := boots(t, m); a.base != i.x || a.dir != i.d {
					t.Errorf("of %d cores Boot tells %v", cores, a)
				}
			}
		}
	}
}

func TestBootOfABadLeaf(t *testing.T) {
	for k := range 7 {
		for at := range 512 {
			i := few()
			i.all[i.d[k]][at/64] ^= 1 << (at % 64)
			refuses(t, memoryOf(t, i.all), api.ErrImage)
		}
		for _, line := range []int{0, 1, 2, 9, 17, 18, 20, 64, 1023, i7(k)} {
			i := few()
			i.d[k] = line
			i.all[17] = rootLine(i.d)
			refuses(t, memoryOf(t, i.all), api.ErrImage)
		}
	}
}

// i7 is the line of another leaf than k.
func i7(k int) int { return few().d[(k+1)%7] }

// An object's line is a frame of its own.
func TestBootOfABadTable(t *testing.T) {
	for _, id := range []int{0, 1, 7, 8, 30, 48, 4, 41} {
		for _, line := range []int{0, 1, 2, 5, 9, 10, 12, 16, 17, 19, 20, 22, 40, 63, 64, 65, 1023} {
			i := few()
			if i.x[id].Line == line {
				continue
			}
			i.x[id] = entryOf(api.KindPage, 1, line)
			i.lay()
			refuses(t, memoryOf(t, i.all), api.ErrImage)
		}
		for _, x := range []api.Entry{{Kind: 5, Line: 30}, {Kind: 15, Line: 30}, {Kind: 1, Line: 1024}, {Kind: 1, Line: 65535}, {Line: 30}} {
			i := few()
			i.x[id] = x
			i.lay()
			refuses(t, memoryOf(t, i.all), api.ErrImage)
		}
	}
}

// journal is few with these records, one behind the other, from the first line of the logs on.
func journal(t *testing.T, l ...api.Record) *nvm.Memory {
	t.Helper()
	i := few()
	for n, r := range l {
		i.all[2+n] = recordLine(r)
	}
	return memoryOf(t, i.all)
}

// A record above the superblock's Seq is done again, one at or below it is not; Next is behind all of them.
func TestBootDoesRecordsAgain(t *testing.T) {
	for _, x := range []struct {
		seq, next int
		does      bool
	}{{1, 6, false}, {4, 6, false}, {5, 6, false}, {6, 7, true}, {7, 8, true}, {1 << 32, 1<<32 + 1, true}, {top - 1, top, true}, {top, top + 1, true}} {
		for _, id := range []int{0, 8, 48} {
			for word := range 8 {
				m := journal(t, api.Record{Seq: x.seq, Id: id, Word: word, Value: math.MaxUint64 - 3})
				a, _ := boots(t, m)
				want, line, steps := lineOf(few().x[id].Line), few().x[id].Line, 0
				if x.does {
					want[word], line, steps = math.MaxUint64-3, 18, 8
				}
				if a.next != x.next || a.l[id] != want || a.table[id].Line != line || m.Steps() != steps || a.base != few().x {
					t.Errorf("of the record %d of %d Boot tells %v", x.seq, id, a)
				}
			}
		}
	}
}

// Of what is no page, or is not there, nothing is done; Next is behind it all the same.
func TestBootOfRecordsOfNoPage(t *testing.T) {
	for _, id := range []int{1, 7, 30, 2, 3, 47, 4, 6, 46} {
		for _, seq := range []int{1, 5, 6, 90} {
			m := journal(t, api.Record{Seq: seq, Id: id, Word: 3, Value: 9})
			was := lookAt(m)
			if a, _ := boots(t, m); a.next != max(6, seq+1) || a.table != few().x {
				t.Errorf("of the record %d of %d Boot tells %v", seq, id, a)
			}
			still(t, m, was)
		}
	}
}

// By rising Seq, wherever they stand; of the same Seq the one in the later line is done last.
func TestBootByRisingSeq(t *testing.T) {
	r := func(seq, word int, v uint64) api.Record { return api.Record{Seq: seq, Id: 48, Word: word, Value: v} }
	for _, x := range []struct {
		l           []api.Record
		first, next int
		second      uint64
	}{
		{[]api.Record{r(6, 0, 1), r(7, 0, 2), r(8, 1, 3)}, 2, 9, 3},
		{[]api.Record{r(7, 0, 2), r(6, 0, 1), r(8, 1, 3)}, 2, 9, 3},
		{[]api.Record{r(9, 0, 4), r(8, 0, 3), r(7, 0, 2), r(6, 0, 1), r(6, 1, 5), r(6, 1, 6), r(6, 1, 7), r(6, 1, 8)}, 4, 10, 8},
		{[]api.Record{r(6, 0, 5), r(6, 0, 4), r(6, 0, 3), r(5, 0, 9), r(6, 1, 3)}, 3, 7, 3},
		{[]api.Record{r(top, 0, 1), r(6, 0, 2), r(5, 1, 2), r(4, 1, 3), r(7, 1, 4)}, 1, top + 1, 4},
	} {
		m := journal(t, x.l...)
		a, _ := boots(t, m)
		want := lineOf(22)
		want[0], want[1] = uint64(x.first), x.second
		if a.l[48] != want || a.next != x.next || a.table[48].Line != 18 {
			t.Errorf("of %v Boot tells %v", x.l, a)
		}
		if above := len(slices.DeleteFunc(slices.Clone(x.l), func(r api.Record) bool { return r.Seq < 6 })); m.Steps() != 8+above-1 {
			t.Errorf("of %v there were %d steps", x.l, m.Steps())
		}
	}
}

// Each page that has records goes to a frame of its own, the first one that is free; by the Seq, not by the number.
func TestBootOfRecordsOfMorePages(t *testing.T) {
	m := journal(t, api.Record{Seq: 9, Id: 0, Word: 1, Value: 1}, api.Record{Seq: 6, Id: 48, Word: 2, Value: 2}, api.Record{Seq: 7, Id: 8, Word: 3, Value: 3}, api.Record{Seq: 8, Id: 48, Word: 3, Value: 4}, api.Record{Seq: 10, Id: 1, Word: 3, Value: 4}, api.Record{Seq: 2, Id: 8, Word: 3, Value: 9})
	was := m.Sure()
	a, _ := boots(t, m)
	if a.table[48].Line != 18 || a.table[8].Line != 23 || a.table[0].Line != 24 || a.table[1].Line != 19 || a.next != 11 || a.frames != 54-14-3 {
		t.Errorf("Boot tells %v", a)
	}
	if a.l[48][2] != 2 || a.l[48][3] != 4 || a.l[8][3] != 3 || a.l[0][1] != 1 || a.l[1] != lineOf(19) {
		t.Errorf("Boot tells %v", a)
	}
	if !slices.Equal(m.Sure(), was) {
		t.Errorf("what was done again is sure")
	}
}

// The logs of the superblock's cores are scanned, to their last lines, no others.
func TestBootScansItsCores(t *testing.T) {
	for cores := 1; cores <= 8; cores++ {
		for line := 2; line < 40; line++ {
			m := formatted(t, 64, cores, page())
			l := m.Sure()
			if line >= 2+4*cores && line < 2+4*cores+9 {
				continue
			}
			l[line] = recordLine(api.Record{Seq: 3, Word: 4, Value: 5})
			a, _ := boots(t, memoryOf(t, l))
			if line < 2+4*cores && (a.next != 4 || a.l[0] != api.Line{1, 2, 0, 0, 5}) {
				t.Errorf("of %d cores, with a record in the line %d, Boot tells %v", cores, line, a)
			}
			if line >= 2+4*cores && (a.next != 1 || a.l[0] != api.Line{1, 2}) {
				t.Errorf("of %d cores, with a record in the line %d behind the logs, Boot tells %v", cores, line, a)
			}
		}
	}
}

func TestNext(t *testing.T) {
	for _, x := range []struct {
		seq     int
		records []int
		next    int
	}{{0, nil, 1}, {5, nil, 6}, {top, nil, top + 1}, {5, []int{5}, 6}, {5, []int{4, 3, 1}, 6}, {5, []int{1, 6}, 7}, {5, []int{9, 6, 4}, 10}, {0, []int{1}, 2}, {top - 1, []int{top}, top + 1}, {top, []int{top, 1}, top + 1}, {top, []int{top - 1}, top + 1}} {
		for _, id := range []int{0, 1, 2} {
			i := few()
			i.b.Seq = x.seq
			i.lay()
			for n, seq := range x.records {
				i.all[9-n] = recordLine(api.Record{Seq: seq, Id: id})
			}
			if a, _ := boots(t, memoryOf(t, i.all)); a.next != x.next {
				t.Errorf("behind %d, with %v, Next = %d, want %d", x.seq, x.records, a.next, x.next)
			}
		}
	}
	// What reads as no record is not counted.
	i := few()
	i.all[2], i.all[3], i.all[4] = recordLine(api.Record{Seq: top + 1}), recordLine(api.Record{Seq: 8, Id: 49}), recordLine(api.Record{Seq: 8, Word: 8})
	i.all[5] = recordLine(api.Record{Seq: 8})
	i.all[5][7]++
	if a, _ := boots(t, memoryOf(t, i.all)); a.next != 6 || a.table != i.x {
		t.Errorf("Boot tells %v", a)
	}
}

// With no frame for a page that has a record there is no image.
func TestBootWithoutAFrame(t *testing.T) {
	for free := range 4 {
		// 49 objects, 48 of them pages, and their directory: of 63 and so many more lines.
		l := some(49)
		for id := range 48 {
			l[id].Kind = api.KindPage
		}
		l[48].Kind = api.KindNode
		for n := range 5 {
			m := formatted(t, 64+free, 1, l)
			for r := range n {
				if r == 4 {
					break
				}
				appends(t, m, 0, 0, api.Record{Seq: 1 + r, Id: 40 - r, Word: r, Value: 5})
			}
			before := m.Steps()
			a, _ := boots(t, m)
			// One frame is free besides, as 64 is the least number of lines.
			want := api.OK
			if n > free+1 {
				want = api.ErrFull
			}
			if a.e != want || m.Steps() != before+8*min(n, free+1) {
				t.Errorf("with %d frames, of %d records, Boot tells %v, behind %d steps", free+1, n, a.e, m.Steps()-before)
			}
			m.Crash(keepAll())
			if b, _ := boots(t, m); b != a {
				t.Errorf("Boot tells %v, then %v", a, b)
			}
		}
	}
	// One that is no page's needs none; nor does the second one of a page.
	m := formatted(t, 64, 1, append(some(48), api.Object{Kind: api.KindPage}))
	appends(t, m, 0, 0, api.Record{Seq: 4, Id: 48, Word: 7, Value: 6})
	appends(t, m, 0, 0, api.Record{Seq: 3, Id: 48, Word: 6, Value: 5})
	appends(t, m, 0, 0, api.Record{Seq: 2, Id: 47, Word: 6, Value: 5})
	if a, _ := boots(t, m); a.l[48] != (api.Line{6: 5, 7: 6}) || a.frames != 0 || a.next != 5 {
		t.Errorf("Boot tells %v", a)
	}
	refuses(t, formatFull(t), api.ErrFull)
}

// formatFull is an image with no frame free, and a record of a page.
func formatFull(t *testing.T) *nvm.Memory {
	t.Helper()
	m := formatted(t, 65, 2, some(47))
	appends(t, m, 1, 0, api.Record{Seq: 1, Id: 4, Word: 7, Value: 6})
	return m
}

// P12.4

// Boot of Boot is the same: behind each crash, and with none.
func TestBootAgain(t *testing.T) {
	for _, m := range bootScenes(t) {
		was, _ := boots(t, m.Clone())
		for _, keep := range keeps() {
			c := m.Clone()
			for range 4 {
				a, _ := boots(t, c)
				if a != was {
					t.Errorf("with %v kept, Boot tells %v, then %v", keep, was, a)
				}
				c.Crash(keep)
			}
		}
		c := m.Clone()
		for range 3 {
			if a, _ := boots(t, c); a != was {
				t.Errorf("without a crash Boot tells %v, then %v", was, a)
			}
		}
	}
}

// What is done of one image is not seen in what another Boot brings back, till a checkpoint is committed.
func TestBootAgainOfOneThatIsUsed(t *testing.T) {
	for _, m := range imageScenes(t) {
		was, _ := boots(t, m.Clone())
		a, i := boots(t, m)
		for id := range 49 {
			i.Store.Set(id, id%8, 12345)
		}
		for id := 0; id < 49; id += 3 {
			i.Store.End(id)
			i.Store.Make(api.KindPage)
		}
		for id := range 49 {
			i.Store.Set(id, 1, 54321)
		}
		for line := range m.Lines() {
			m.Flush(0, line)
		}
		m.Fence(0)
		if b, _ := boots(t, m); b != was || a != was {
			t.Errorf("Boot tells %v, then %v", was, b)
		}
	}
}

// Of a memory and its clone each one's image is its own.
func TestBootOfAClone(t *testing.T) {
	for _, m := range imageScenes(t) {
		c := m.Clone()
		a, i := boots(t, m)
		i.Store.Set(0, 0, 1)
		i.Store.End(8)
		if b, _ := boots(t, c); b != a {
			t.Errorf("Boot tells %v, then %v", a, b)
		}
	}
}

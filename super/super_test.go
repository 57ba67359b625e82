package super_test

import (
	"encoding/binary"
	"hash/crc32"
	"math"
	"math/rand"
	"slices"
	"testing"

	"steadfast/api"
	"steadfast/nvm"
	"steadfast/super"
)

const top = 1 << 40

// steps are those of a Write that is done: nought, eight words, a flush, a fence.
const steps = 11

func block(gen, root, seq, cores int) api.Super {
	return api.Super{Gen: gen, Root: root, Seq: seq, Cores: cores}
}

// sealed lays seven words out with their sum behind, without the program's own packages.
func sealed(w ...uint64) api.Line {
	var l api.Line
	copy(l[:7], w)
	var b []byte
	for _, x := range l[:7] {
		b = binary.LittleEndian.AppendUint64(b, x)
	}
	l[7] = 1<<32 + uint64(crc32.ChecksumIEEE(b))
	return l
}

// lineOf is the chapter's line of a superblock, whether it may be or not.
func lineOf(s api.Super) api.Line {
	return sealed(0x5afec0de, uint64(s.Gen), uint64(s.Root), uint64(s.Seq), uint64(s.Cores))
}

// goodSupers are superblocks that may be, each edge among them.
func goodSupers() []api.Super {
	all := []api.Super{block(3, 20, 0, 1), block(4, 30, 7, 2), block(12345, 678, 1<<33, 5)}
	for _, gen := range []int{1, 2, 1 << 32, top - 1, top} {
		for _, root := range []int{0, 1, 1022, 1023} {
			for _, seq := range []int{0, 1, 1 << 32, top - 1, top} {
				for _, cores := range []int{1, 2, 7, 8} {
					all = append(all, block(gen, root, seq, cores))
				}
			}
		}
	}
	return all
}

// outOf are numbers below least, and above most.
func outOf(least, most int) []int {
	return []int{least - 1, most + 1, least - 2, most + 2, -most, math.MinInt, math.MinInt + least + 1, math.MaxInt, 1<<62 + least, -1 << 32}
}

// badSupers are superblocks that may not be: by one part alone, at each edge of the others, and by several.
func badSupers() []api.Super {
	all := []api.Super{{}, block(-1, -1, -1, -1), block(0, 0, 0, 1), block(1, 1024, 0, 1), block(0, 1024, top+1, 9), block(math.MinInt, math.MaxInt, math.MinInt, math.MaxInt)}
	for _, s := range []api.Super{block(1, 0, 0, 1), block(top, 1023, top, 8), block(4, 30, 7, 2)} {
		for _, n := range outOf(1, top) {
			all = append(all, block(n, s.Root, s.Seq, s.Cores))
		}
		for _, n := range append(outOf(0, 1023), 1<<32) {
			all = append(all, block(s.Gen, n, s.Seq, s.Cores))
		}
		for _, n := range outOf(0, top) {
			all = append(all, block(s.Gen, s.Root, n, s.Cores))
		}
		for _, n := range append(outOf(1, 8), 1<<32+1, 1<<8+1, 16) {
			all = append(all, block(s.Gen, s.Root, s.Seq, n))
		}
	}
	return all
}

// badLines are lines of no superblock.
func badLines() []api.Line {
	const full = math.MaxUint64
	good := lineOf(block(4, 30, 7, 2))
	all := []api.Line{
		{}, sealed(), {full, full, full, full, full, full, full, full}, {0x5afec0de}, {0x5afec0de, 4, 30, 7, 2},
		sealed(0x5afec0de), sealed(4, 30, 7, 2), sealed(0, 0x5afec0de, 4, 30, 7, 2), sealed(0x10600000, 4, 30, 7, 2),
	}
	for _, first := range []uint64{0, 1, 0x5afec0df, 0x5afec0de ^ 1<<31, 0x5afec0de + 1<<32, 0x5afec0de + 1<<63, 0xdec0fe5a, 0x5afec0de << 32, full} {
		all = append(all, sealed(first, 4, 30, 7, 2))
	}
	for _, w := range []uint64{1, 2, 0x5afec0de, 1 << 32, 1 << 63, full} {
		all = append(all, sealed(0x5afec0de, 4, 30, 7, 2, w, 0), sealed(0x5afec0de, 4, 30, 7, 2, 0, w), sealed(0x5afec0de, 4, 30, 7, 2, w, w))
	}
	for _, s := range badSupers() {
		all = append(all, lineOf(s))
	}
	for _, sum := range []uint64{0, 1 << 32, good[7] - 1<<32, good[7] + 1<<32, good[7] + 1<<63, good[7] + 1, ^good[7], full} {
		l := good
		l[7] = sum
		all = append(all, l)
	}
	return all
}

// read asks Read, and that none stands beside false.
func read(t *testing.T, l api.Line) (api.Super, bool) {
	t.Helper()
	s, ok := super.Read(l)
	if !ok && s != (api.Super{}) {
		t.Errorf("Read(%x) = %v beside false", l, s)
	}
	return s, ok
}

// fresh is a memory whose slots are a and b, all of it sure.
func fresh(t *testing.T, a, b api.Line) *nvm.Memory {
	t.Helper()
	l := make([]api.Line, 64)
	for i := range l {
		l[i] = api.Line{uint64(i), 7: uint64(i) << 40}
	}
	l[0], l[1] = a, b
	m, e := nvm.Of(l)
	if e != api.OK {
		t.Fatal(e)
	}
	return m
}

func writes(t *testing.T, want api.Errno, m *nvm.Memory, core, slot int, s api.Super) {
	t.Helper()
	if e := super.Write(m, core, slot, s); e != want {
		t.Errorf("Write(%d, %d, %v) = %v, want %v", core, slot, s, e, want)
	}
}

func finds(t *testing.T, m *nvm.Memory, s api.Super, slot int, e api.Errno) {
	t.Helper()
	if gotS, gotSlot, gotE := super.Find(m); gotS != s || gotSlot != slot || gotE != e {
		t.Errorf("Find = %v, %d, %v, want %v, %d, %v", gotS, gotSlot, gotE, s, slot, e)
	}
}

func load(t *testing.T, m *nvm.Memory, line int) api.Line {
	t.Helper()
	l, e := m.Load(line)
	if e != api.OK {
		t.Fatalf("Load(%d): %v", line, e)
	}
	return l
}

// first is old with the first n stores of a Write of s done.
func first(old api.Line, s api.Super, n int) api.Line {
	l := lineOf(s)
	if n > 0 {
		old[7] = 0
	}
	for i := 1; i < n; i++ {
		old[i-1] = l[i-1]
	}
	return old
}

// The chapter's examples.

func TestExamples(t *testing.T) {
	if s, ok := read(t, api.Line{}); ok {
		t.Errorf("noughts are %v", s)
	}
	for _, s := range []api.Super{block(0, 0, 0, 1), block(1, 1024, 0, 1)} {
		if l, e := super.Line(s); e != api.ErrArg || l != (api.Line{}) {
			t.Errorf("Line(%v) = %x, %v, want ErrArg", s, l, e)
		}
	}
	three, four, other := api.Super{Gen: 3, Root: 20, Cores: 1}, api.Super{Gen: 4, Root: 30, Cores: 1}, api.Super{Gen: 4, Root: 40, Cores: 1}
	best(t, lineOf(three), lineOf(four), four, 1, true)
	best(t, lineOf(four), lineOf(other), four, 0, true)
}

// P5.1

func TestLineOfKnownSuper(t *testing.T) {
	want := api.Line{0x5afec0de, 4, 30, 7, 2, 0, 0, lineOf(block(4, 30, 7, 2))[7]}
	if got, e := super.Line(block(4, 30, 7, 2)); got != want || e != api.OK {
		t.Errorf("Line = %x, %v, want %x", got, e, want)
	}
}

func TestLineAndReadOfAllThatMayBe(t *testing.T) {
	for _, s := range goodSupers() {
		l, e := super.Line(s)
		if want := lineOf(s); l != want || e != api.OK {
			t.Errorf("Line(%v) = %x, %v, want %x", s, l, e, want)
		}
		if got, ok := read(t, lineOf(s)); got != s || !ok {
			t.Errorf("Read of the line of %v = %v, %v", s, got, ok)
		}
	}
}

func TestLineRefusesWhatMayNotBe(t *testing.T) {
	for _, s := range badSupers() {
		if l, e := super.Line(s); l != (api.Line{}) || e != api.ErrArg {
			t.Errorf("Line(%v) = %x, %v, want ErrArg", s, l, e)
		}
	}
}

func TestLineAtEachEdge(t *testing.T) {
	with := func(change func(*api.Super, int), n int) api.Super {
		s := block(5, 6, 7, 3)
		change(&s, n)
		return s
	}
	for _, c := range []struct {
		part        string
		change      func(*api.Super, int)
		least, most int
	}{
		{"Gen", func(s *api.Super, n int) { s.Gen = n }, 1, 1 << 40},
		{"Root", func(s *api.Super, n int) { s.Root = n }, 0, 1023},
		{"Seq", func(s *api.Super, n int) { s.Seq = n }, 0, 1 << 40},
		{"Cores", func(s *api.Super, n int) { s.Cores = n }, 1, 8},
	} {
		for _, n := range []int{c.least - 1, c.least, c.least + 1, c.most - 1, c.most, c.most + 1} {
			s := with(c.change, n)
			want, code := lineOf(s), api.OK
			if n < c.least || n > c.most {
				want, code = api.Line{}, api.ErrArg
			}
			if l, e := super.Line(s); l != want || e != code {
				t.Errorf("%s %d: Line = %x, %v, want %x, %v", c.part, n, l, e, want, code)
			}
			got, ok := read(t, lineOf(s))
			if ok != (code == api.OK) || ok && got != s {
				t.Errorf("%s %d: Read = %v, %v", c.part, n, got, ok)
			}
		}
	}
}

func TestReadRefusesLinesOfNone(t *testing.T) {
	for _, l := range badLines() {
		was := l
		if s, ok := read(t, l); ok {
			t.Errorf("Read(%x) = %v", l, s)
		}
		if l != was {
			t.Errorf("Read changed %x to %x", was, l)
		}
	}
}

func TestReadRefusesTurnedBytes(t *testing.T) {
	for _, s := range []api.Super{block(1, 0, 0, 1), block(top, 1023, top, 8), block(4, 30, 7, 2)} {
		for i := range api.Words {
			for at := 0; at < 64; at += 8 {
				for turn := uint64(1); turn < 256; turn++ {
					l := lineOf(s)
					l[i] ^= turn << at
					if got, ok := read(t, l); ok {
						t.Errorf("the word %d of the line of %v turned by %x: %v", i, s, turn<<at, got)
					}
				}
			}
		}
	}
}

// P5.2

func best(t *testing.T, a, b api.Line, s api.Super, slot int, ok bool) {
	t.Helper()
	if gotS, gotSlot, gotOk := super.Best(a, b); gotS != s || gotSlot != slot || gotOk != ok {
		t.Errorf("Best(%x, %x) = %v, %d, %v, want %v, %d, %v", a, b, gotS, gotSlot, gotOk, s, slot, ok)
	}
}

func TestBestOfTwo(t *testing.T) {
	for _, a := range goodSupers() {
		for _, b := range []api.Super{block(1, 1023, top, 8), block(2, 0, 0, 1), block(4, 31, 6, 3), block(12345, 0, 0, 8), block(1<<32, 5, 5, 5), block(top-1, 9, 9, 4), block(top, 0, 0, 1)} {
			if b.Gen > a.Gen {
				best(t, lineOf(a), lineOf(b), b, 1, true)
				best(t, lineOf(b), lineOf(a), b, 0, true)
				continue
			}
			best(t, lineOf(a), lineOf(b), a, 0, true)
			if a.Gen > b.Gen {
				best(t, lineOf(b), lineOf(a), a, 1, true)
			} else {
				best(t, lineOf(b), lineOf(a), b, 0, true)
			}
		}
	}
}

func TestBestOfOneOrNone(t *testing.T) {
	for i, bad := range badLines() {
		for _, s := range []api.Super{block(1, 0, 0, 1), block(4, 30, 7, 2), block(top, 1023, top, 8)} {
			best(t, lineOf(s), bad, s, 0, true)
			best(t, bad, lineOf(s), s, 1, true)
		}
		for _, other := range []api.Line{bad, {}, badLines()[len(badLines())-1-i]} {
			best(t, bad, other, api.Super{}, 0, false)
			best(t, other, bad, api.Super{}, 0, false)
		}
	}
}

// P5.3

func TestWriteMakesTheSlotSure(t *testing.T) {
	for _, s := range []api.Super{block(1, 0, 0, 1), block(4, 30, 7, 2), block(top, 1023, top, 8)} {
		for core := range api.MaxCores {
			for slot := range 2 {
				m := fresh(t, api.Line{9, 9, 9, 9, 9, 9, 9, 9}, lineOf(block(2, 3, 4, 5)))
				want := m.Sure()
				want[slot] = lineOf(s)
				writes(t, api.OK, m, core, slot, s)
				if !slices.Equal(m.Sure(), want) {
					t.Errorf("behind Write(%d, %d, %v) is sure: %x", core, slot, s, m.Sure())
				}
				if m.Steps() != steps {
					t.Errorf("Write made %d steps, want %d", m.Steps(), steps)
				}
				m.Crash(nil)
				if got := load(t, m, slot); got != want[slot] {
					t.Errorf("behind a crash the slot %d is %x, want %x", slot, got, want[slot])
				}
			}
		}
	}
}

func TestWriteStoresInOrder(t *testing.T) {
	s := block(4, 30, 7, 2)
	for _, old := range []api.Line{{}, {9, 8, 7, 6, 5, 4, 3, 2}, lineOf(block(3, 20, 5, 1))} {
		for slot := range 2 {
			for at := range steps {
				done := min(at, 9)
				for k := range done + 1 {
					m := fresh(t, old, old)
					want := m.Sure()
					want[slot] = first(old, s, k)
					m.Fuse(at)
					writes(t, api.ErrPower, m, 1, slot, s)
					if m.On() || m.Steps() != at {
						t.Errorf("a fuse of %d: On %v, Steps %d", at, m.On(), m.Steps())
					}
					m.Crash([]int{k})
					if !slices.Equal(m.Sure(), want) {
						t.Errorf("behind %d steps, of which %d stores are kept, is sure: %x, want %x", at, k, m.Sure()[:2], want[:2])
					}
				}
			}
		}
	}
}

func TestWriteUnderAFuseThatLasts(t *testing.T) {
	s := block(4, 30, 7, 2)
	for _, more := range []int{0, 1, 5} {
		m := fresh(t, api.Line{}, api.Line{})
		m.Fuse(steps + more)
		writes(t, api.OK, m, 3, 1, s)
		finds(t, m, s, 1, api.OK)
		for range more {
			if e := m.Fence(0); e != api.OK {
				t.Errorf("a fuse of %d: %v", steps+more, e)
			}
		}
		if e := m.Fence(0); e != api.ErrPower {
			t.Errorf("a fuse of %d burns on: %v", steps+more, e)
		}
	}
}

func TestWriteFencesForItsCoreAlone(t *testing.T) {
	s := block(4, 30, 7, 2)
	for core := range api.MaxCores {
		m := fresh(t, api.Line{}, api.Line{})
		for other := range api.MaxCores {
			m.Store(10+other, 3, 99)
			m.Flush(other, 10+other)
		}
		m.Store(30, 3, 99) // flushed by nobody
		writes(t, api.OK, m, core, 0, s)
		sure := m.Sure()
		for other := range api.MaxCores {
			if got := sure[10+other][3] == 99; got != (other == core) {
				t.Errorf("Write by %d: what %d has flushed is sure: %v", core, other, got)
			}
		}
		if sure[30][3] != 0 {
			t.Errorf("Write by %d makes sure what nobody has flushed", core)
		}
	}
}

func TestWriteRefusesSlotsAndSupers(t *testing.T) {
	good := block(4, 30, 7, 2)
	m := fresh(t, lineOf(api.Super{Gen: 3, Root: 20, Cores: 1}), api.Line{})
	was := m.Sure()
	refuse := func() {
		t.Helper()
		for _, slot := range []int{-1, 2, 3, 63, 64, -2, 1 << 32, 1<<32 + 1, math.MinInt, math.MaxInt} {
			writes(t, api.ErrArg, m, 0, slot, good)
			writes(t, api.ErrArg, m, 8, slot, good)
			writes(t, api.ErrArg, m, 0, slot, api.Super{})
		}
		for _, s := range badSupers() {
			for slot := range 2 {
				writes(t, api.ErrArg, m, 0, slot, s)
				writes(t, api.ErrArg, m, -1, slot, s)
			}
		}
	}
	refuse()
	m.Fuse(0)
	refuse()
	if !m.On() || m.Steps() != 0 {
		t.Errorf("what was refused made steps: On %v, Steps %d", m.On(), m.Steps())
	}
	writes(t, api.ErrPower, m, 0, 1, good)
	refuse() // these are named ahead of the power
	m.Crash([]int{9, 9})
	if !slices.Equal(m.Sure(), was) {
		t.Error("what was refused has stored")
	}
}

func TestWriteByNoCore(t *testing.T) {
	s := block(4, 30, 7, 2)
	for _, core := range []int{-1, 8, 9, 1 << 32, math.MinInt, math.MaxInt} {
		m := fresh(t, api.Line{}, api.Line{})
		was := m.Sure()
		writes(t, api.ErrArg, m, core, 0, s)
		// The flush is the first to ask for the core: the stores stand ahead of it.
		if m.Steps() != 9 || load(t, m, 0) != lineOf(s) {
			t.Errorf("Write by %d: %d steps, the slot has %x", core, m.Steps(), load(t, m, 0))
		}
		if !slices.Equal(m.Sure(), was) {
			t.Errorf("Write by %d made something sure", core)
		}
		m.Fuse(4)
		writes(t, api.ErrPower, m, core, 0, s)
		writes(t, api.ErrPower, m, core, 0, s)
	}
}

func TestWriteAndFindWithoutPower(t *testing.T) {
	s := block(4, 30, 7, 2)
	m := fresh(t, lineOf(s), api.Line{})
	was := m.Sure()
	m.Fuse(0)
	finds(t, m, s, 0, api.OK) // no step: the power is on yet
	m.Store(20, 0, 1)
	finds(t, m, api.Super{}, 0, api.ErrPower)
	for slot := range 2 {
		writes(t, api.ErrPower, m, 0, slot, api.Super{Gen: 5, Cores: 1})
	}
	finds(t, m, api.Super{}, 0, api.ErrPower)
	if m.Steps() != 0 {
		t.Errorf("%d steps without power", m.Steps())
	}
	m.Crash([]int{1, 1, 1})
	if !slices.Equal(m.Sure(), was) {
		t.Error("something was stored without power")
	}
	finds(t, m, s, 0, api.OK)
}

func TestFind(t *testing.T) {
	three, four, other := api.Super{Gen: 3, Root: 20, Cores: 1}, block(4, 30, 7, 2), block(4, 31, 8, 3)
	half := first(lineOf(three), four, 5)
	for _, c := range []struct {
		a, b api.Line
		s    api.Super
		slot int
		e    api.Errno
	}{
		{lineOf(three), lineOf(four), four, 1, api.OK},
		{lineOf(four), lineOf(three), four, 0, api.OK},
		{lineOf(four), lineOf(other), four, 0, api.OK},
		{lineOf(other), lineOf(four), other, 0, api.OK},
		{lineOf(three), api.Line{}, three, 0, api.OK},
		{half, lineOf(three), three, 1, api.OK},
		{api.Line{}, lineOf(four), four, 1, api.OK},
		{api.Line{}, api.Line{}, api.Super{}, 0, api.ErrNoImage},
		{half, half, api.Super{}, 0, api.ErrNoImage},
		{lineOf(api.Super{Gen: top + 1, Cores: 1}), lineOf(api.Super{Gen: 1}), api.Super{}, 0, api.ErrNoImage},
		{lineOf(api.Super{Gen: top + 1, Cores: 1}), lineOf(three), three, 1, api.OK},
	} {
		m := fresh(t, c.a, c.b)
		was := m.Sure()
		for range 2 {
			finds(t, m, c.s, c.slot, c.e)
		}
		if m.Steps() != 0 || !m.On() || !slices.Equal(m.Sure(), was) {
			t.Errorf("Find of %x and %x made steps", c.a, c.b)
		}
	}
}

func TestFindAsksTheFirstTwoLinesAlone(t *testing.T) {
	m := fresh(t, api.Line{}, api.Line{})
	for line := 2; line < 64; line++ {
		for i, w := range lineOf(api.Super{Gen: line, Cores: 1}) {
			m.Store(line, i, w)
		}
	}
	finds(t, m, api.Super{}, 0, api.ErrNoImage)
}

func TestFindAsksWhatALineHas(t *testing.T) {
	s := block(4, 30, 7, 2)
	m := fresh(t, api.Line{}, api.Line{})
	for i, w := range lineOf(s) {
		finds(t, m, api.Super{}, 0, api.ErrNoImage)
		m.Store(1, i, w)
	}
	finds(t, m, s, 1, api.OK) // though it is not sure yet
	m.Crash(nil)
	finds(t, m, api.Super{}, 0, api.ErrNoImage)
}

func TestWriteOfBothSlotsByTurns(t *testing.T) {
	m := fresh(t, api.Line{}, api.Line{})
	for gen := 1; gen < 40; gen++ {
		s := block(gen, gen*7, gen*gen, 1+gen%8)
		writes(t, api.OK, m, gen%8, gen%2, s)
		finds(t, m, s, gen%2, api.OK)
	}
}

// P5.4

// keeps are nothing, each part, everything, and numbers that count modulo.
func keeps() [][]int {
	all := [][]int{nil, {}, {-1}, {-10}, {10}, {math.MinInt}, {math.MaxInt}}
	for k := range 10 {
		all = append(all, []int{k}, []int{k, 0}, []int{0, k}, []int{k, 3, k})
	}
	return all
}

// bestOf is the best of what two slots are, none standing for no superblock.
func bestOf(a, b api.Super) (api.Super, int) {
	if a.Gen == 0 && b.Gen == 0 || a.Gen >= b.Gen {
		return a, 0
	}
	return b, 1
}

func TestPowerGoesOffAtEachStep(t *testing.T) {
	none, old, best := api.Super{}, block(6, 20, 5, 2), block(7, 33, 9, 2)
	for _, standing := range [][2]api.Super{{none, best}, {old, best}, {best, best}} {
		// The next generation, the same one, and older ones, alike but for one part and not.
		for _, next := range []api.Super{block(8, 44, 11, 2), block(8, 33, 9, 2), block(7, 33, 9, 2), block(7, 34, 9, 2), block(5, 1, 1, 1), block(top, 1023, top, 8)} {
			for slot := range 2 {
				both := standing
				if slot == 1 {
					both[0], both[1] = both[1], both[0] // the best stands in the other slot
				}
				for at := range steps + 2 {
					for _, keep := range keeps() {
						offAt(t, both, slot, at, next, keep)
					}
				}
			}
		}
	}
}

// offAt lets the power go off behind so many steps of a Write, and looks at what Find finds.
func offAt(t *testing.T, both [2]api.Super, slot, at int, next api.Super, keep []int) {
	t.Helper()
	var lines [2]api.Line
	for i, s := range both {
		if s.Gen != 0 {
			lines[i] = lineOf(s)
		}
	}
	ahead, stood := bestOf(both[0], both[1])
	m := fresh(t, lines[0], lines[1])
	m.Fuse(at)
	e := super.Write(m, 5, slot, next)
	m.Crash(keep)
	if got := load(t, m, 1-slot); got != lines[1-slot] {
		t.Fatalf("Write to %d, off at %d, kept %v: the other slot is %x", slot, at, keep, got)
	}
	s, found, f := super.Find(m)
	isNew := s == next && found == slot
	// Where both slots have the same generation, that of the slot 0 stands for both.
	isOld := s == ahead && (found == stood || both[0] == both[1])
	if f != api.OK || !isNew && !isOld {
		t.Fatalf("%v, Write to %d of %v, off at %d, kept %v: %v, %d, %v", both, slot, next, at, keep, s, found, f)
	}
	both[slot] = next
	if want, where := bestOf(both[0], both[1]); at >= steps && (e != api.OK || s != want || found != where) {
		t.Fatalf("%v, Write to %d of %v is done: %v, found %v, %d", both, slot, next, e, s, found)
	}
	if at < steps && e != api.ErrPower {
		t.Fatalf("a fuse of %d: Write = %v, want ErrPower", at, e)
	}
}

func TestPowerGoesOffAgainAndAgain(t *testing.T) {
	old := block(6, 20, 5, 2)
	for slot := range 2 {
		for at := range steps {
			for again := range steps {
				for k := range 10 {
					m := fresh(t, lineOf(old), lineOf(old))
					for i, off := range []int{at, again} {
						next := block(7+i, 30+i, 8+i, 2)
						m.Fuse(off)
						writes(t, api.ErrPower, m, i, slot, next)
						m.Crash([]int{k * (7 - 6*i)})
						s, found, e := super.Find(m)
						isNew := found == slot && (s == next || i == 1 && s.Gen == 7)
						if e != api.OK || s != old && !isNew {
							t.Fatalf("off at %d, then %d: %v, %d, %v", at, again, s, found, e)
						}
					}
					writes(t, api.OK, m, 0, slot, api.Super{Gen: 9, Root: 40, Cores: 1})
					m.Crash(nil)
					finds(t, m, api.Super{Gen: 9, Root: 40, Cores: 1}, slot, api.OK)
				}
			}
		}
	}
}

func TestWhatWasWrittenIsNeverRolledBack(t *testing.T) {
	chance := rand.New(rand.NewSource(5))
	for range 200 {
		s, slot := api.Super{Gen: 1, Root: 20, Cores: 1}, chance.Intn(2)
		m := fresh(t, api.Line{}, api.Line{})
		writes(t, api.OK, m, 0, slot, s)
		for range 30 {
			next := block(s.Gen+1+chance.Intn(3), chance.Intn(1024), chance.Intn(top), 1+chance.Intn(8))
			m.Fuse(chance.Intn(16))
			e := super.Write(m, chance.Intn(8), 1-slot, next)
			m.Crash([]int{chance.Int() - chance.Int()})
			got, where, f := super.Find(m)
			if isNew := got == next && where == 1-slot; f != api.OK || !isNew && (e == api.OK || got != s || where != slot) {
				t.Fatalf("%v in %d, Write of %v = %v: found %v, %d, %v", s, slot, next, e, got, where, f)
			}
			s, slot = got, where
		}
	}
}

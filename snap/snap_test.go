package snap_test

import (
	"encoding/binary"
	"hash/crc32"
	"math"
	"slices"
	"testing"

	"steadfast/api"
	"steadfast/nvm"
	"steadfast/objects"
	"steadfast/radix"
	"steadfast/snap"
	"steadfast/super"
)

const (
	top        = 1 << 40
	topVersion = 1<<24 - 1
	// from is the first frame of these tests' memories: the superblocks and the logs of two cores stand ahead.
	from = 10
	// firstObject is the line of the first object: the directory stands ahead, from the first frame on.
	firstObject = 18
	// everything, as a number of what a crash keeps, keeps all of up to 19 stores of a line: it is one less than a number that 1 to 20 divide.
	everything = 232792560 - 1
)

// oldSuper is the superblock that counts at first, in the slot 1.
func oldSuper() api.Super { return api.Super{Gen: 4, Root: 17, Seq: 5, Cores: 2} }

// far are numbers that are no record's number and no slot.
func far() []int {
	return []int{-1, -2, top + 1, top + 2, 1 << 62, -1 << 32, -top, math.MinInt, math.MinInt + 1, math.MaxInt - 1, math.MaxInt}
}

func entryOf(kind, version, line int) api.Entry {
	return api.Entry{Kind: kind, Version: version, Line: line}
}

// sealed lays words out with their sum behind, without the program's own packages; so do the next three.
func sealed(w []uint64) api.Line {
	var l api.Line
	copy(l[:7], w)
	var b []byte
	for _, x := range l[:7] {
		b = binary.LittleEndian.AppendUint64(b, x)
	}
	l[7] = 1<<32 + uint64(crc32.ChecksumIEEE(b))
	return l
}

func leafLine(x radix.Table, k int) api.Line {
	var w []uint64
	for _, own := range x[7*k : 7*k+7] {
		w = append(w, uint64(own.Kind)+uint64(own.Version)<<4+uint64(own.Line)<<28)
	}
	return sealed(w)
}

func rootLine(d objects.Dir) api.Line {
	var w []uint64
	for _, line := range d[:7] {
		w = append(w, 1<<32+uint64(line))
	}
	return sealed(w)
}

func superLine(b api.Super) api.Line {
	return sealed([]uint64{0x5afec0de, uint64(b.Gen), uint64(b.Root), uint64(b.Seq), uint64(b.Cores)})
}

// lineOf is what the line n has at first, if it is none of the image's own: no two words are the same.
func lineOf(n int) api.Line {
	var l api.Line
	for w := range l {
		l[w] = uint64(1000*n + w + 1)
	}
	return l
}

func oldDir() objects.Dir {
	return objects.Dir{10, 11, 12, 13, 14, 15, 16, 17}
}

// few has an object of each kind, at both ends of the table, too; the numbers 2 and 47 had one; 3 has had all versions.
func few() radix.Table {
	return radix.Table{
		0:  entryOf(api.KindPage, 0, 18),
		1:  entryOf(api.KindNode, 5, 19),
		2:  entryOf(api.KindNone, 9, 0),
		3:  entryOf(api.KindNone, topVersion, 0),
		7:  entryOf(api.KindThread, 1, 20),
		30: entryOf(api.KindGate, topVersion, 21),
		47: entryOf(api.KindNone, 4, 0),
		48: entryOf(api.KindPage, 2, 22),
	}
}

// many has the first n objects.
func many(n int) radix.Table {
	var x radix.Table
	for id := range n {
		x[id] = entryOf(1+id%4, id, firstObject+id)
	}
	return x
}

// machine is a worker with its memory and its store.
type machine struct {
	m *nvm.Memory
	s *objects.Store
	x *snap.Snap
}

// begin is a machine whose image, with these objects and the superblock b in a slot, is sure; the other slot's is an older one.
func begin(t *testing.T, lines int, x radix.Table, b api.Super, slot int) machine {
	t.Helper()
	all := make([]api.Line, lines)
	for n := range all {
		all[n] = lineOf(n)
	}
	d := oldDir()
	for k := range 7 {
		all[d[k]] = leafLine(x, k)
	}
	all[d[7]] = rootLine(d)
	all[slot&1] = superLine(b)
	all[1-slot&1] = superLine(api.Super{Gen: b.Gen - 1, Root: 9, Seq: 1, Cores: 2})
	m, e := nvm.Of(all)
	if e != api.OK {
		t.Fatal(e)
	}
	s, e := objects.Of(m, from, x, d)
	if e != api.OK {
		t.Fatal(e)
	}
	w := snap.New(m, s, b, slot)
	if w == nil {
		t.Fatal("no worker")
	}
	return machine{m, s, w}
}

func fewMachine(t *testing.T) machine {
	t.Helper()
	return begin(t, 96, few(), oldSuper(), 1)
}

func (c machine) clone() machine {
	m := c.m.Clone()
	s := c.s.Clone(m)
	return machine{m, s, c.x.Clone(m, s)}
}

func is(t *testing.T, want api.Errno, codes ...api.Errno) {
	t.Helper()
	for i, e := range codes {
		if e != want {
			t.Errorf("call %d answered %v, want %v", i, e, want)
		}
	}
}

func left(t *testing.T, c machine, want int) {
	t.Helper()
	if got := c.x.Left(); got != want {
		t.Errorf("Left = %d, want %d", got, want)
	}
}

func steps(t *testing.T, c machine, done bool, want api.Errno) {
	t.Helper()
	if got, e := c.x.Step(); got != done || e != want {
		t.Errorf("Step = %v, %v, want %v, %v", got, e, done, want)
	}
}

func supers(t *testing.T, c machine, b api.Super, slot int) {
	t.Helper()
	if got, at := c.x.Super(); got != b || at != slot {
		t.Errorf("Super = %v, %d, want %v, %d", got, at, b, slot)
	}
}

func frees(t *testing.T, c machine, want int) {
	t.Helper()
	if got := c.s.Left(); got != want {
		t.Errorf("%d frames are free, want %d", got, want)
	}
}

func based(t *testing.T, c machine, x radix.Table, d objects.Dir) {
	t.Helper()
	if got, dir := c.s.Base(); got != x || dir != d {
		t.Errorf("Base = %v, %v, want %v, %v", got, dir, x, d)
	}
}

func marked(t *testing.T, c machine, x radix.Table, is bool) {
	t.Helper()
	if got, ok := c.s.Marked(); got != x || ok != is {
		t.Errorf("Marked = %v, %v, want %v, %v", got, ok, x, is)
	}
}

func holds(t *testing.T, m *nvm.Memory, line int, want api.Line) {
	t.Helper()
	if got, e := m.Load(line); got != want || e != api.OK {
		t.Errorf("the line %d has %v, %v, want %v", line, got, e, want)
	}
}

func set(t *testing.T, c machine, id, word int, v uint64) {
	t.Helper()
	if e := c.s.Set(id, word, v); e != api.OK {
		t.Fatalf("Set(%d, %d, %d) = %v", id, word, v, e)
	}
}

func makes(t *testing.T, c machine, kind int) int {
	t.Helper()
	id, e := c.s.Make(kind)
	if e != api.OK {
		t.Fatalf("Make(%d) = %v", kind, e)
	}
	return id
}

func end(t *testing.T, c machine, id int) {
	t.Helper()
	if e := c.s.End(id); e != api.OK {
		t.Fatalf("End(%d) = %v", id, e)
	}
}

// drain takes frames till n are free.
func drain(t *testing.T, c machine, n int) {
	t.Helper()
	for c.s.Left() > n {
		if _, e := c.s.Take(); e != api.OK {
			t.Fatal(e)
		}
	}
	frees(t, c, n)
}

// finish does the steps that are left.
func finish(t *testing.T, c machine) {
	t.Helper()
	for n := c.x.Left(); n > 0; n-- {
		left(t, c, n)
		steps(t, c, n == 1, api.OK)
		if t.Failed() {
			t.FailNow()
		}
	}
	left(t, c, 0)
}

// checkpoint does a whole one.
func checkpoint(t *testing.T, c machine, seq int) {
	t.Helper()
	is(t, api.OK, c.x.Begin(seq))
	finish(t, c)
}

// shot is what there is: a table, and what its objects' lines have.
type shot struct {
	x radix.Table
	l [api.Objects]api.Line
}

func shotOf(t *testing.T, m *nvm.Memory, x radix.Table) shot {
	t.Helper()
	all := shot{x: x}
	for id, own := range x {
		if own.Kind != api.KindNone {
			l, e := m.Load(own.Line)
			if e != api.OK {
				t.Fatalf("Load(%d): %v", own.Line, e)
			}
			all.l[id] = l
		}
	}
	return all
}

func (c machine) shot(t *testing.T) shot {
	t.Helper()
	return shotOf(t, c.m, c.s.Table())
}

// comesBack holds what a memory comes back to behind a crash against what it is to be.
func comesBack(t *testing.T, m *nvm.Memory, keep []int, b api.Super, slot int, was shot) {
	t.Helper()
	c := m.Clone()
	c.Crash(keep)
	got, at, e := super.Find(c)
	if got != b || at != slot || e != api.OK {
		t.Errorf("with %v kept, Find = %v, %d, %v, want %v, %d", keep, got, at, e, b, slot)
		return
	}
	x, _, e := radix.Load(c, from, got.Root)
	if e != api.OK {
		t.Errorf("with %v kept, Load(%d) = %v", keep, got.Root, e)
		return
	}
	if is := shotOf(t, c, x); is != was {
		t.Errorf("with %v kept, there is %v, want %v", keep, is, was)
	}
}

func keepAll() []int {
	return slices.Repeat([]int{everything}, 100)
}

// keeps are what crashes keep: nothing, some, all.
func keeps() [][]int {
	all := [][]int{nil, {}}
	for k := range 10 {
		all = append(all, slices.Repeat([]int{k}, 20), []int{k})
	}
	for _, k := range []int{1, 8, everything} {
		all = append(all, []int{0, k}, []int{0, 0, k}, []int{k, 0, k, 0, k, 0, k})
	}
	return append(all, keepAll(), slices.Repeat([]int{math.MinInt}, 9), slices.Repeat([]int{math.MaxInt}, 9))
}

// state is all that may be asked of a machine.
type state struct {
	has, sure, fenced         []api.Line
	steps, left, frames, slot int
	b                         api.Super
	table, base, marked       radix.Table
	dir                       objects.Dir
	isMarked, on              bool
}

func (c machine) state(t *testing.T) state {
	t.Helper()
	var all state
	c.m = c.m.Clone()
	all.on, all.steps, all.sure = c.m.On(), c.m.Steps(), c.m.Sure()
	for line := range c.m.Lines() {
		l, _ := c.m.Load(line)
		all.has = append(all.has, l)
	}
	// What the core 0 has flushed shows once it fences.
	c.m.Fuse(-1)
	c.m.Fence(0)
	all.fenced = c.m.Sure()
	all.table = c.s.Table()
	all.base, all.dir = c.s.Base()
	all.marked, all.isMarked = c.s.Marked()
	all.frames, all.left = c.s.Left(), c.x.Left()
	all.b, all.slot = c.x.Super()
	return all
}

func (a state) same(b state) bool {
	lines := slices.Equal(a.has, b.has) && slices.Equal(a.sure, b.sure) && slices.Equal(a.fenced, b.fenced)
	return lines && a.steps == b.steps && a.left == b.left && a.frames == b.frames && a.slot == b.slot && a.b == b.b &&
		a.table == b.table && a.base == b.base && a.marked == b.marked && a.dir == b.dir && a.isMarked == b.isMarked && a.on == b.on
}

// still fails, if a machine is another than it was.
func still(t *testing.T, c machine, was state) {
	t.Helper()
	if is := c.state(t); !is.same(was) {
		t.Errorf("it is another now: %v, was %v", is, was)
	}
}

// nextSuper is the one that a checkpoint of seq writes behind b.
func nextSuper(b api.Super, root, seq int) api.Super {
	return api.Super{Gen: b.Gen + 1, Root: root, Seq: seq, Cores: b.Cores}
}

// The chapter's examples.

func TestExamples(t *testing.T) {
	c := fewMachine(t)
	steps(t, c, false, api.ErrState)
	is(t, api.ErrArg, c.x.Begin(-1))
	is(t, api.OK, c.x.Begin(0))
	left(t, c, 3)
	steps(t, c, false, api.OK)
	steps(t, c, false, api.OK)
	steps(t, c, true, api.OK)
}

// P11.1

func TestNew(t *testing.T) {
	blocks := []api.Super{oldSuper(), {}, {Gen: 1, Cores: 1}, {Gen: top, Root: 1023, Seq: top, Cores: 8}, {Gen: -1, Root: -1, Seq: -1, Cores: -1}, {Gen: math.MinInt, Root: math.MaxInt, Seq: math.MinInt, Cores: math.MaxInt}}
	for _, b := range blocks {
		for _, slot := range append(far(), 0, 1, 2) {
			c := fewMachine(t)
			was := c.state(t)
			c.x = snap.New(c.m, c.s, b, slot)
			supers(t, c, b, slot)
			left(t, c, 0)
			steps(t, c, false, api.ErrState)
			supers(t, c, b, slot)
			was.b, was.slot = b, slot
			still(t, c, was)
		}
	}
}

// What was asked is not changed by being asked, and Super stays as it is till the last step.
func TestSuperAndLeft(t *testing.T) {
	c := fewMachine(t)
	set(t, c, 0, 0, 1)
	is(t, api.OK, c.x.Begin(9))
	for n := 5; n > 0; n-- {
		for range 3 {
			left(t, c, n)
			supers(t, c, oldSuper(), 1)
		}
		steps(t, c, n == 1, api.OK)
	}
	for range 3 {
		left(t, c, 0)
		supers(t, c, nextSuper(oldSuper(), 25, 9), 0)
	}
}

// P11.2

func TestBeginOfNoRecordsNumber(t *testing.T) {
	c := fewMachine(t)
	set(t, c, 0, 0, 1)
	was := c.state(t)
	for _, seq := range far() {
		is(t, api.ErrArg, c.x.Begin(seq))
		still(t, c, was)
		steps(t, c, false, api.ErrState)
	}
}

func TestBeginOfEachEdge(t *testing.T) {
	for _, seq := range []int{0, 1, 4, 5, 6, 1 << 32, top - 1, top} {
		c := fewMachine(t)
		set(t, c, 1, 1, 1)
		was := c.shot(t)
		checkpoint(t, c, seq)
		b := nextSuper(oldSuper(), 25, seq)
		supers(t, c, b, 0)
		comesBack(t, c.m, nil, b, 0, was)
	}
}

func TestBeginAtTheLastGeneration(t *testing.T) {
	for slot := range 2 {
		b := oldSuper()
		b.Gen = top - 1
		c := begin(t, 96, few(), b, slot)
		set(t, c, 48, 7, 1)
		was := c.shot(t)
		checkpoint(t, c, 7)
		b = nextSuper(b, 25, 7)
		if b.Gen != top {
			t.Fatal(b)
		}
		supers(t, c, b, 1-slot)
		comesBack(t, c.m, nil, b, 1-slot, was)
		set(t, c, 48, 7, 2)
		now := c.state(t)
		for _, seq := range append(far(), 0, 7, top) {
			is(t, api.ErrArg, c.x.Begin(seq))
			still(t, c, now)
		}
		steps(t, c, false, api.ErrState)
	}
}

func TestBeginOfTheFirstGeneration(t *testing.T) {
	for slot := range 2 {
		b := api.Super{Cores: 8}
		c := begin(t, 96, few(), b, slot)
		set(t, c, 48, 7, 1)
		was := c.shot(t)
		checkpoint(t, c, 0)
		b = api.Super{Gen: 1, Root: 25, Cores: 8}
		supers(t, c, b, 1-slot)
		comesBack(t, c.m, nil, b, 1-slot, was)
	}
}

// The words ask whether Gen is 2^40: of another superblock that may not be, the last step tells.
func TestSupersThatMayNotBe(t *testing.T) {
	for _, b := range []api.Super{{Gen: -1, Cores: 1}, {Gen: top + 1, Cores: 1}, {Gen: math.MinInt, Cores: 1}, {Gen: math.MaxInt, Cores: 1}, {Gen: 4}, {Gen: 4, Cores: 9}, {Gen: 4, Cores: -1}, {Gen: 4, Cores: math.MaxInt}} {
		refusesTheLast(t, b, 1)
	}
}

func TestSlotsThatAreNone(t *testing.T) {
	for _, slot := range append(far(), 2, 3) {
		refusesTheLast(t, oldSuper(), slot)
	}
}

// refusesTheLast does a checkpoint up to its last step, which is refused: so it is left, and nothing is done.
func refusesTheLast(t *testing.T, b api.Super, slot int) {
	t.Helper()
	c := fewMachine(t)
	c.x = snap.New(c.m, c.s, b, slot)
	set(t, c, 0, 0, 1)
	is(t, api.OK, c.x.Begin(3))
	for range 4 {
		steps(t, c, false, api.OK)
	}
	was := c.state(t)
	for range 3 {
		steps(t, c, false, api.ErrArg)
		still(t, c, was)
		left(t, c, 1)
		supers(t, c, b, slot)
		is(t, api.ErrState, c.x.Begin(3))
	}
}

func TestBeginTwice(t *testing.T) {
	c := fewMachine(t)
	set(t, c, 0, 0, 1)
	set(t, c, 30, 0, 1)
	is(t, api.OK, c.x.Begin(6))
	for n := 7; n > 0; n-- {
		set(t, c, 1, 1, uint64(n))
		was := c.state(t)
		for _, seq := range append(far(), 0, 6, 7, top) {
			is(t, api.ErrState, c.x.Begin(seq))
		}
		still(t, c, was)
		left(t, c, n)
		steps(t, c, n == 1, api.OK)
	}
	is(t, api.OK, c.x.Begin(7))
	is(t, api.ErrState, c.x.Begin(7))
}

func TestBeginWithATableMarked(t *testing.T) {
	c := fewMachine(t)
	set(t, c, 0, 0, 1)
	is(t, api.OK, c.s.Mark())
	set(t, c, 0, 0, 2)
	was := c.state(t)
	is(t, api.ErrState, c.x.Begin(0), c.x.Begin(top))
	for _, seq := range far() {
		is(t, api.ErrArg, c.x.Begin(seq))
	}
	still(t, c, was)
	left(t, c, 0)
	steps(t, c, false, api.ErrState)
	is(t, api.OK, c.s.Abort())
	now := c.shot(t)
	checkpoint(t, c, 8)
	comesBack(t, c.m, nil, nextSuper(oldSuper(), 25, 8), 0, now)
}

// Begin marks what there is, and does nothing to the memory.
func TestBeginMarks(t *testing.T) {
	c := fewMachine(t)
	set(t, c, 0, 0, 1)
	was := c.state(t)
	is(t, api.OK, c.x.Begin(6))
	marked(t, c, was.table, true)
	was.marked, was.isMarked, was.left = was.table, true, 5
	still(t, c, was)
}

// How many steps there are: an object's line that is none of the base's, a leaf that differs, and three.
func TestHowManySteps(t *testing.T) {
	for i, v := range []struct {
		want int
		do   func(t *testing.T, c machine)
	}{
		{3, func(t *testing.T, c machine) {}},
		{5, func(t *testing.T, c machine) { set(t, c, 0, 0, 1) }},
		{5, func(t *testing.T, c machine) { set(t, c, 0, 0, 1); set(t, c, 0, 0, 2); set(t, c, 0, 7, 3) }},
		{6, func(t *testing.T, c machine) { set(t, c, 0, 0, 1); set(t, c, 1, 0, 1) }},
		{7, func(t *testing.T, c machine) { set(t, c, 0, 0, 1); set(t, c, 48, 0, 1) }},
		{5, func(t *testing.T, c machine) { makes(t, c, api.KindPage) }},
		{4, func(t *testing.T, c machine) { end(t, c, 7) }},
		{4, func(t *testing.T, c machine) { set(t, c, 7, 0, 1); end(t, c, 7) }},
		{4, func(t *testing.T, c machine) { end(t, c, makes(t, c, api.KindGate)) }},
		{4, func(t *testing.T, c machine) { end(t, c, 0); end(t, c, 1) }},
		// What is made where an object ended is in the line of none of the base's.
		{5, func(t *testing.T, c machine) { end(t, c, 0); makes(t, c, api.KindPage) }},
		{13, func(t *testing.T, c machine) {
			for id := range 5 {
				if id != 3 {
					end(t, c, makes(t, c, api.KindPage))
				}
			}
			for _, id := range []int{0, 1, 7, 30, 48} {
				set(t, c, id, 1, 1)
			}
			makes(t, c, api.KindNode)
		}},
		// The same words again make another line all the same.
		{5, func(t *testing.T, c machine) { set(t, c, 0, 0, lineOf(18)[0]) }},
		// Frames that are none of an object's are no matter of it.
		{3, func(t *testing.T, c machine) { drain(t, c, 5) }},
	} {
		c := fewMachine(t)
		v.do(t, c)
		was := c.shot(t)
		is(t, api.OK, c.x.Begin(6))
		if got := c.x.Left(); got != v.want {
			t.Errorf("%d: Left = %d, want %d", i, got, v.want)
		}
		finish(t, c)
		b, slot := c.x.Super()
		comesBack(t, c.m, nil, b, slot, was)
	}
}

// An entry of KindNone names no line: an object that stands in that one is flushed.
func TestTheLineOfNoObjectIsNotTheBases(t *testing.T) {
	x := few()
	x[5] = entryOf(api.KindNone, 1, 23)
	c := fewMachine(t)
	s, e := objects.Of(c.m, from, x, oldDir())
	if e != api.OK {
		t.Fatal(e)
	}
	c.s, c.x = s, snap.New(c.m, s, oldSuper(), 1)
	set(t, c, 7, 0, 1)
	if c.s.Table()[7].Line != 23 {
		t.Fatal(c.s.Table()[7])
	}
	is(t, api.OK, c.x.Begin(0))
	left(t, c, 5)
	was := c.m.Steps()
	steps(t, c, false, api.OK)
	if c.m.Steps() != was+1 {
		t.Errorf("%d steps of the memory, want a flush", c.m.Steps()-was)
	}
}

// P11.3

func TestStepWhenIdle(t *testing.T) {
	c := fewMachine(t)
	set(t, c, 0, 0, 1)
	for range 3 {
		was := c.state(t)
		for range 3 {
			steps(t, c, false, api.ErrState)
			still(t, c, was)
		}
		checkpoint(t, c, 1)
		set(t, c, 0, 0, 2)
	}
	c.m.Fuse(0)
	c.m.Fence(0)
	steps(t, c, false, api.ErrState)
}

// Each step of one checkpoint, with all that is to be seen of it.
func TestEachStep(t *testing.T) {
	c := fewMachine(t)
	set(t, c, 0, 0, 5)
	makes(t, c, api.KindPage)
	end(t, c, 30)
	x := few()
	x[0], x[2], x[30] = entryOf(api.KindPage, 0, 23), entryOf(api.KindPage, 9, 24), entryOf(api.KindNone, topVersion, 0)
	if c.s.Table() != x {
		t.Fatal(c.s.Table())
	}
	is(t, api.OK, c.x.Begin(6))
	left(t, c, 7)
	want := c.state(t)
	// now does a step, which takes some frames and some steps of the memory, and stores a line.
	now := func(cost, line int, l api.Line, done bool) {
		t.Helper()
		steps(t, c, done, api.OK)
		want.steps += cost
		want.left--
		want.has[line], want.fenced[line] = l, l
	}
	page := lineOf(18)
	page[0] = 5
	now(1, 23, page, false)
	still(t, c, want)
	now(1, 24, api.Line{}, false)
	still(t, c, want)
	now(9, 25, leafLine(x, 0), false)
	want.frames--
	still(t, c, want)
	now(9, 26, leafLine(x, 4), false)
	want.frames--
	still(t, c, want)
	d := objects.Dir{25, 11, 12, 13, 26, 15, 16, 27}
	now(9, 27, rootLine(d), false)
	want.frames--
	still(t, c, want)
	now(1, 27, rootLine(d), false)
	copy(want.sure[23:28], want.has[23:28])
	still(t, c, want)
	b := api.Super{Gen: 5, Root: 27, Seq: 6, Cores: 2}
	now(11, 0, superLine(b), true)
	want.sure[0] = superLine(b)
	want.b, want.slot = b, 0
	want.base, want.dir = x, d
	want.marked, want.isMarked = radix.Table{}, false
	// The lines of the two old leaves, the old root, and of the objects 0 and 30.
	want.frames += 5
	still(t, c, want)
	comesBack(t, c.m, nil, b, 0, c.shot(t))
}

// Each fence is the core 0's: what it has flushed meanwhile is sure then, what other cores have is not.
func TestEachFenceIsByTheCoreNought(t *testing.T) {
	for _, n := range []int{1, 2} {
		for core := range 8 {
			c := fewMachine(t)
			is(t, api.OK, c.x.Begin(6))
			for c.x.Left() > n {
				steps(t, c, false, api.OK)
			}
			is(t, api.OK, c.m.Store(60, 3, 4), c.m.Flush(core, 60))
			steps(t, c, n == 1, api.OK)
			want := lineOf(60)
			if core == 0 {
				want[3] = 4
			}
			if got := c.m.Sure()[60]; got != want {
				t.Errorf("with %d steps left, and a flush of the core %d: sure is %v, want %v", n, core, got, want)
			}
		}
	}
}

// Objects are flushed, and leaves written, by rising number, whatever their lines.
func TestStepsRise(t *testing.T) {
	c := begin(t, 160, many(49), oldSuper(), 1)
	for id := 48; id >= 0; id-- {
		set(t, c, id, 0, uint64(id)+7)
	}
	x := c.s.Table()
	is(t, api.OK, c.x.Begin(0))
	left(t, c, 59)
	was := c.state(t)
	for id := range 49 {
		steps(t, c, false, api.OK)
		was.fenced[x[id].Line] = was.has[x[id].Line]
		was.steps++
		was.left--
		still(t, c, was)
	}
	for k := range 7 {
		line := 18 + 2*49 + k
		steps(t, c, false, api.OK)
		holds(t, c.m, line, leafLine(x, k))
	}
}

// The leaves that do not differ stay where they are: of each one alone, and of all but one.
func TestLeavesThatDiffer(t *testing.T) {
	for k := range 7 {
		for _, others := range []bool{false, true} {
			c := begin(t, 160, many(49), oldSuper(), 1)
			want, next, changed := oldDir(), 18+49, 0
			for j := range 7 {
				if (j == k) != others {
					set(t, c, 7*j+k, 2, 9)
					changed++
				}
			}
			next += changed
			for j := range 7 {
				if (j == k) != others {
					want[j] = next
					next++
				}
			}
			want[7] = next
			x, was := c.s.Table(), c.shot(t)
			is(t, api.OK, c.x.Begin(6))
			left(t, c, 2*changed+3)
			finish(t, c)
			based(t, c, x, want)
			holds(t, c.m, want[7], rootLine(want))
			comesBack(t, c.m, nil, nextSuper(oldSuper(), want[7], 6), 0, was)
		}
	}
}

func TestNothingChanged(t *testing.T) {
	c := fewMachine(t)
	was := c.shot(t)
	free := c.s.Left()
	is(t, api.OK, c.x.Begin(6))
	left(t, c, 3)
	steps(t, c, false, api.OK)
	holds(t, c.m, 23, rootLine(oldDir()))
	frees(t, c, free-1)
	steps(t, c, false, api.OK)
	steps(t, c, true, api.OK)
	d := oldDir()
	d[7] = 23
	based(t, c, few(), d)
	frees(t, c, free)
	comesBack(t, c.m, nil, nextSuper(oldSuper(), 23, 6), 0, was)
}

func TestNoObjectAtAll(t *testing.T) {
	c := begin(t, 64, radix.Table{}, oldSuper(), 1)
	checkpoint(t, c, 6)
	comesBack(t, c.m, nil, nextSuper(oldSuper(), 18, 6), 0, shot{})
	id := makes(t, c, api.KindPage)
	was := c.shot(t)
	checkpoint(t, c, 7)
	b, slot := c.x.Super()
	comesBack(t, c.m, nil, b, slot, was)
	end(t, c, id)
	was = c.shot(t)
	checkpoint(t, c, 8)
	b, slot = c.x.Super()
	comesBack(t, c.m, nil, b, slot, was)
	frees(t, c, 64-10-8)
}

// One checkpoint behind the other: by turns of the slots, each a generation on; what was committed is never gone.
func TestCheckpointsByTurns(t *testing.T) {
	for slot := range 2 {
		c := begin(t, 96, few(), oldSuper(), slot)
		at := slot
		for n := range 9 {
			set(t, c, []int{0, 1, 7, 30, 48}[n%5], n%8, uint64(100+n))
			if n == 3 {
				makes(t, c, api.KindGate)
			}
			was := c.shot(t)
			checkpoint(t, c, n*n)
			at = 1 - at
			b, got := c.x.Super()
			if want := (api.Super{Gen: 5 + n, Root: b.Root, Seq: n * n, Cores: 2}); b != want || got != at {
				t.Errorf("Super = %v, %d, want %v, %d", b, got, want, at)
			}
			set(t, c, 0, 0, 1)
			for _, keep := range keeps() {
				comesBack(t, c.m, keep, b, at, was)
			}
			marked(t, c, radix.Table{}, false)
			frees(t, c, unnamed(c))
		}
	}
}

// unnamed is how many frames neither the base, nor its Dir, nor the working table names.
func unnamed(c machine) int {
	named := map[int]int{}
	base, d := c.s.Base()
	for _, line := range d {
		named[line]++
	}
	for _, x := range []radix.Table{base, c.s.Table()} {
		for _, own := range x {
			if own.Kind != api.KindNone {
				named[own.Line]++
			}
		}
	}
	return c.m.Lines() - from - len(named)
}

// crowd has all objects: one was set in each of the first n leaves, and one more in the first; r frames are left.
func crowd(t *testing.T, n, r int) machine {
	t.Helper()
	copies := min(n, 1) + n
	c := begin(t, 67+copies+r, many(49), oldSuper(), 1)
	for k := range n {
		set(t, c, 7*k, 1, 5)
		set(t, c, 1, k, 6)
	}
	frees(t, c, r)
	return c
}

// No frame is free for a leaf, or (if r is n) for the root: all is as when it began, and the next checkpoint begins anew.
func TestFull(t *testing.T) {
	for n := range 8 {
		for r := range n + 1 {
			c := crowd(t, n, r)
			old := shotOf(t, c.m, many(49))
			for range 2 {
				runsFull(t, c, n, r)
				for _, keep := range keeps() {
					comesBack(t, c.m, keep, oldSuper(), 1, old)
				}
			}
			anew(t, c, n)
		}
	}
}

// runsFull does a checkpoint for which there are r frames.
func runsFull(t *testing.T, c machine, n, r int) {
	t.Helper()
	was := c.state(t)
	flushes := min(n, 1) + n
	is(t, api.OK, c.x.Begin(6))
	left(t, c, flushes+n+3)
	for range flushes + r {
		steps(t, c, false, api.OK)
	}
	left(t, c, n+3-r)
	frees(t, c, 0)
	marked(t, c, was.table, true)
	steps(t, c, false, api.ErrFull)
	now := c.state(t)
	if got := now.steps - was.steps; got != flushes+9*r {
		t.Errorf("%d steps of the memory, want %d", got, flushes+9*r)
	}
	// Leaves stand in frames that are free again, and lines were flushed: all else is as it was.
	was.has, was.fenced, was.steps = now.has, now.fenced, now.steps
	still(t, c, was)
	steps(t, c, false, api.ErrState)
	still(t, c, was)
}

// anew ends what was set, so that there is room, and does a checkpoint.
func anew(t *testing.T, c machine, n int) {
	t.Helper()
	if n == 0 {
		return
	}
	end(t, c, 1)
	for k := range n {
		end(t, c, 7*k)
	}
	was := c.shot(t)
	is(t, api.OK, c.x.Begin(9))
	left(t, c, n+3)
	finish(t, c)
	b, slot := c.x.Super()
	if b.Gen != 5 || b.Seq != 9 || slot != 0 {
		t.Errorf("Super = %v, %d", b, slot)
	}
	comesBack(t, c.m, nil, b, slot, was)
	frees(t, c, unnamed(c))
}

// The frames go to what is done in between: that stays, and what was written of the checkpoint is free.
func TestFullByWhatIsDoneInBetween(t *testing.T) {
	for taken := range 3 {
		c := crowd(t, 2, 3)
		is(t, api.OK, c.x.Begin(6))
		for range 3 + taken {
			steps(t, c, false, api.OK)
		}
		for id := 14; c.s.Left() > 0; id++ {
			set(t, c, id, 0, 1)
		}
		set(t, c, 14, 1, 2)
		was := c.shot(t)
		steps(t, c, false, api.ErrFull)
		left(t, c, 0)
		frees(t, c, taken)
		frees(t, c, unnamed(c))
		based(t, c, many(49), oldDir())
		marked(t, c, radix.Table{}, false)
		if c.shot(t) != was {
			t.Error("what was done in between is gone")
		}
		supers(t, c, oldSuper(), 1)
		end(t, c, 0)
		end(t, c, 1)
		end(t, c, 7)
		end(t, c, 14)
		was = c.shot(t)
		checkpoint(t, c, 7)
		b, slot := c.x.Super()
		comesBack(t, c.m, nil, b, slot, was)
	}
}

// That no frame is free is told ahead of the power.
func TestFullWithThePowerOff(t *testing.T) {
	for r := range 2 {
		c := crowd(t, 1, r)
		is(t, api.OK, c.x.Begin(6))
		for range 2 + r {
			steps(t, c, false, api.OK)
		}
		c.m.Fuse(0)
		is(t, api.ErrPower, c.m.Fence(0))
		steps(t, c, false, api.ErrFull)
		left(t, c, 0)
		frees(t, c, r)
		marked(t, c, radix.Table{}, false)
	}
}

// A leaf, or a root, that may not be is none of what a store of Sets makes, but of one that was so at first.
func TestLinesThatMayNotBe(t *testing.T) {
	x := few()
	x[8] = entryOf(5, 0, 23)
	c := fewMachine(t)
	s, e := objects.Of(c.m, from, x, oldDir())
	if e != api.OK {
		t.Fatal(e)
	}
	c.s, c.x = s, snap.New(c.m, s, oldSuper(), 1)
	set(t, c, 7, 0, 1)
	is(t, api.OK, c.x.Begin(6))
	steps(t, c, false, api.OK)
	refusesTheNext(t, c, 4)

	c = fewMachine(t)
	d := oldDir()
	d[3] = 1024
	is(t, api.OK, c.s.Mark(), c.s.Commit(d))
	is(t, api.OK, c.x.Begin(6))
	refusesTheNext(t, c, 3)
}

// refusesTheNext does a step whose line may not be: so it is left, and no frame is taken; with none free that is told.
func refusesTheNext(t *testing.T, c machine, n int) {
	t.Helper()
	was := c.state(t)
	for range 3 {
		steps(t, c, false, api.ErrArg)
		still(t, c, was)
		left(t, c, n)
	}
	drain(t, c, 0)
	steps(t, c, false, api.ErrFull)
	left(t, c, 0)
	frees(t, c, was.frames)
}

// The store is the caller's, too: if the caller lets go what was marked, nothing is committed.
func TestNothingIsMarkedAnyMore(t *testing.T) {
	c := fewMachine(t)
	set(t, c, 0, 0, 1)
	is(t, api.OK, c.x.Begin(6), c.s.Abort())
	for range 4 {
		steps(t, c, false, api.OK)
	}
	for range 2 {
		steps(t, c, false, api.ErrState)
		left(t, c, 1)
		supers(t, c, oldSuper(), 1)
		based(t, c, few(), oldDir())
	}
}

// A worker that New did not make has no store: it never begins.
func TestTheZeroWorker(t *testing.T) {
	var x snap.Snap
	c := machine{x: &x}
	is(t, api.ErrState, x.Begin(0), x.Begin(-1))
	steps(t, c, false, api.ErrState)
	left(t, c, 0)
	supers(t, c, api.Super{}, 0)
}

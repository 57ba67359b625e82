package objects_test

import (
	"math"
	"math/rand"
	"testing"

	"steadfast/api"
	"steadfast/nvm"
	"steadfast/objects"
	"steadfast/radix"
)

// play is a store, and beside it the chapter's words written out a second time, on a memory of their own.
type play struct {
	m, twin           *nvm.Memory
	s                 *objects.Store
	from              int
	table, base, mark radix.Table
	dir               objects.Dir
	isMarked          bool
	taken             map[int]bool
	// still is what each line of the base and of the marked table had when it came there.
	still map[int]api.Line
}

func begin(t *testing.T, lines, from int, x radix.Table, d objects.Dir) *play {
	t.Helper()
	m, s := of(t, lines, from, x, d)
	p := &play{m: m, twin: m.Clone(), s: s, from: from, table: x, base: x, dir: d, taken: map[int]bool{}}
	for line := range p.named() {
		p.taken[line] = true
	}
	p.freeze()
	return p
}

func (p *play) clone() *play {
	other := *p
	other.m, other.twin = p.m.Clone(), p.twin.Clone()
	other.s = p.s.Clone(other.m)
	other.taken, other.still = map[int]bool{}, map[int]api.Line{}
	for line := range p.taken {
		other.taken[line] = true
	}
	for line, l := range p.still {
		other.still[line] = l
	}
	return &other
}

// lines are those of a table's objects.
func lines(x radix.Table) map[int]bool {
	all := map[int]bool{}
	for _, own := range x {
		if own.Kind != api.KindNone {
			all[own.Line] = true
		}
	}
	return all
}

// named are the frames that the base, its Dir, or the working table names.
func (p *play) named() map[int]bool {
	all := lines(p.base)
	for line := range lines(p.table) {
		all[line] = true
	}
	for _, line := range p.dir {
		if line >= p.from && line < p.twin.Lines() {
			all[line] = true
		}
	}
	return all
}

// kept are the lines of the base and of the marked table.
func (p *play) kept() map[int]bool {
	all := lines(p.base)
	if p.isMarked {
		for line := range lines(p.mark) {
			all[line] = true
		}
	}
	return all
}

// freeze notes what each line has that may not change from now on, if it was not noted already.
func (p *play) freeze() {
	was := p.still
	p.still = map[int]api.Line{}
	for line := range p.kept() {
		l, ok := was[line]
		if !ok {
			l, _ = p.twin.Load(line)
		}
		p.still[line] = l
	}
}

func (p *play) left() int {
	return p.twin.Lines() - p.from - len(p.taken)
}

func (p *play) take() (int, api.Errno) {
	for line := p.from; line < p.twin.Lines(); line++ {
		if !p.taken[line] {
			p.taken[line] = true
			return line, api.OK
		}
	}
	return 0, api.ErrFull
}

func (p *play) there(id int) api.Errno {
	if id < 0 || id > 48 {
		return api.ErrArg
	}
	if p.table[id].Kind == 0 {
		return api.ErrNone
	}
	return api.OK
}

// lay stores eight words in a frame.
func (p *play) lay(l api.Line) (int, api.Errno) {
	line, e := p.take()
	for word := 0; word < 8 && e == api.OK; word++ {
		e = p.twin.Store(line, word, l[word])
	}
	return line, e
}

func (p *play) setSaid(id, word int, v uint64) api.Errno {
	if id < 0 || id > 48 || word < 0 || word > 7 {
		return api.ErrArg
	}
	if e := p.there(id); e != api.OK {
		return e
	}
	was := p.table[id].Line
	if !p.kept()[was] {
		return p.twin.Store(was, word, v)
	}
	if p.left() == 0 {
		return api.ErrFull
	}
	l, e := p.twin.Load(was)
	if e != api.OK {
		return e
	}
	line, e := p.lay(with(l, word, v))
	if e == api.OK {
		p.table[id].Line = line
	}
	return e
}

func (p *play) nextSaid(kind int) (id, version int, e api.Errno) {
	if kind != 1 && kind != 2 && kind != 4 {
		return 0, 0, api.ErrArg
	}
	for id := range 49 {
		if p.table[id].Kind == 0 && p.table[id].Version < topVersion {
			return id, p.table[id].Version, api.OK
		}
	}
	return 0, 0, api.ErrTable
}

func (p *play) makeSaid(kind int) (int, api.Errno) {
	id, version, e := p.nextSaid(kind)
	if e != api.OK {
		return 0, e
	}
	line, e := p.lay(api.Line{})
	if e != api.OK {
		return 0, e
	}
	p.table[id] = entryOf(kind, version, line)
	return id, api.OK
}

func (p *play) endSaid(id int) api.Errno {
	if e := p.there(id); e != api.OK {
		return e
	}
	own := p.table[id]
	if !p.kept()[own.Line] {
		delete(p.taken, own.Line)
	}
	p.table[id] = entryOf(0, min(own.Version+1, topVersion), 0)
	return api.OK
}

// sweep frees what nothing names.
func (p *play) sweep() {
	p.isMarked, p.mark = false, radix.Table{}
	named := p.named()
	for line := range p.taken {
		if !named[line] {
			delete(p.taken, line)
		}
	}
	p.freeze()
}

func (p *play) roomSaid(ids []int, more int) bool {
	need := map[int]bool{}
	for _, id := range ids {
		if p.there(id) == api.OK && p.kept()[p.table[id].Line] {
			need[id] = true
		}
	}
	return more >= 0 && more <= p.left() && len(need) <= p.left()-more
}

func (p *play) getSaid(id int) (api.Object, api.Errno) {
	if e := p.there(id); e != api.OK {
		return api.Object{}, e
	}
	own := p.table[id]
	l, e := p.twin.Load(own.Line)
	if e != api.OK {
		return api.Object{}, e
	}
	return object(own.Kind, own.Version, l), api.OK
}

// The same call of both.

func (p *play) set(t *testing.T, id, word int, v uint64) {
	t.Helper()
	is(t, p.setSaid(id, word, v), p.s.Set(id, word, v))
}

func (p *play) made(t *testing.T, kind int) {
	t.Helper()
	id, version, e := p.nextSaid(kind)
	nexts(t, p.s, kind, id, version, e)
	id, e = p.makeSaid(kind)
	makes(t, p.s, kind, id, e)
}

func (p *play) end(t *testing.T, id int) {
	t.Helper()
	is(t, p.endSaid(id), p.s.End(id))
}

func (p *play) takeOne(t *testing.T) int {
	t.Helper()
	line, e := p.take()
	takes(t, p.s, line, e)
	return line
}

func (p *play) markAll(t *testing.T) {
	t.Helper()
	if p.isMarked {
		is(t, api.ErrState, p.s.Mark())
		return
	}
	is(t, api.OK, p.s.Mark())
	p.mark, p.isMarked = p.table, true
	p.freeze()
}

func (p *play) commit(t *testing.T, d objects.Dir) {
	t.Helper()
	if !p.isMarked {
		is(t, api.ErrState, p.s.Commit(d))
		return
	}
	is(t, api.OK, p.s.Commit(d))
	p.base, p.dir = p.mark, d
	p.sweep()
	p.nothingIsLost(t)
}

func (p *play) abort(t *testing.T) {
	t.Helper()
	if !p.isMarked {
		is(t, api.ErrState, p.s.Abort())
		return
	}
	is(t, api.OK, p.s.Abort())
	p.sweep()
	p.nothingIsLost(t)
}

// nothingIsLost holds how many frames are free against how many are named by nothing, if the Dir has taken ones alone.
func (p *play) nothingIsLost(t *testing.T) {
	t.Helper()
	for _, line := range p.dir {
		if !p.taken[line] {
			return
		}
	}
	left(t, p.s, p.twin.Lines()-p.from-len(p.named()))
}

// crash lets the power go on the way of a call, and come back with what keep says; what there was ahead of the call is sure.
func (p *play) crash(fuse int, keep []int, call func()) {
	for _, m := range []*nvm.Memory{p.m, p.twin} {
		for line := range m.Lines() {
			m.Evict(line, math.MaxInt)
		}
		m.Fuse(fuse)
	}
	call()
	p.m.Crash(keep)
	p.twin.Crash(keep)
}

// same holds all that may be asked against what was said; P10.6: no line of the base, or of the marked table, is another one.
func (p *play) same(t *testing.T) {
	t.Helper()
	if p.s.Table() != p.table {
		t.Fatalf("Table = %v, want %v", p.s.Table(), p.table)
	}
	based(t, p.s, p.base, p.dir)
	marked(t, p.s, p.mark, p.isMarked)
	left(t, p.s, p.left())
	for line := range p.twin.Lines() {
		l, _ := p.twin.Load(line)
		holds(t, p.m, line, l)
	}
	for line, l := range p.still {
		holds(t, p.m, line, l)
	}
	for id := -1; id <= 49; id++ {
		o, e := p.getSaid(id)
		gets(t, p.s, id, o, e)
	}
	if p.m.Steps() != p.twin.Steps() {
		t.Errorf("%d steps, want %d", p.m.Steps(), p.twin.Steps())
	}
	if t.Failed() {
		t.FailNow()
	}
}

// P10.6

// Each call, of each object, once the base and the marked table have lines of all sorts.
func TestNoCallChangesWhatIsKept(t *testing.T) {
	for id := range 49 {
		p := begin(t, 64, 10, few(), dirFrom(10))
		p.set(t, 0, 0, 1)
		p.set(t, 7, 1, 2)
		p.made(t, api.KindNode)
		p.end(t, 48)
		p.markAll(t)
		for word := range 8 {
			p.set(t, id, word, 1<<63)
			p.same(t)
		}
		p.end(t, id)
		p.same(t)
		for range 3 {
			p.made(t, api.KindGate)
			p.same(t)
		}
		p.set(t, id, 3, 4)
		p.same(t)
		for p.left() > 0 {
			p.takeOne(t)
		}
		p.set(t, 30, 0, 5)
		p.same(t)
		if id%2 == 0 {
			p.abort(t)
		} else {
			p.commit(t, dirFrom(10))
		}
		p.same(t)
		p.set(t, 0, 0, 6)
		p.end(t, 30)
		p.made(t, api.KindPage)
		p.same(t)
	}
}

// Whatever is kept of a Set or a Make that the power cuts off: the base's lines, and the marked ones, are as they were.
func TestNoCrashChangesWhatIsKept(t *testing.T) {
	for fuse := range 9 {
		for keep := range 9 {
			p := begin(t, 64, 10, few(), dirFrom(10))
			p.set(t, 0, 0, 1)
			p.markAll(t)
			p.crash(fuse, []int{keep}, func() { p.set(t, 0, 5, 2) })
			p.same(t)
			p.crash(fuse, []int{keep}, func() { p.set(t, 1, 5, 2) })
			p.same(t)
			p.crash(fuse, []int{keep}, func() { p.made(t, api.KindPage) })
			p.same(t)
			p.commit(t, dirFrom(10))
			p.same(t)
		}
	}
}

// Behind Commit, and behind Abort, as many frames are free as are named by nothing: whatever was taken in between.
func TestNoFrameIsLost(t *testing.T) {
	for taken := range 9 {
		for _, commits := range []bool{false, true} {
			p := begin(t, 64, 10, few(), dirFrom(10))
			p.set(t, 0, 0, 1)
			p.markAll(t)
			p.set(t, 0, 0, 2)
			p.end(t, 1)
			p.made(t, api.KindPage)
			d := dirFrom(10)
			for k := range taken {
				if k < 8 {
					d[k] = p.takeOne(t)
				}
				p.takeOne(t)
			}
			if commits {
				p.commit(t, d)
			} else {
				p.abort(t)
			}
			p.same(t)
		}
	}
}

// chanceNumber is one of n numbers, or, now and then, one that is none of them.
func chanceNumber(r *rand.Rand, n int) int {
	if r.Intn(20) == 0 {
		odd := append(far(), n, n+1)
		return odd[r.Intn(len(odd))]
	}
	return r.Intn(n)
}

func chanceTable(r *rand.Rand, free []int) radix.Table {
	var x radix.Table
	for id := range x {
		version := []int{0, 1, topVersion - 1, topVersion, r.Intn(topVersion)}[r.Intn(5)]
		kind := r.Intn(5)
		if r.Intn(3) == 0 || id >= len(free) {
			kind = 0
		}
		x[id] = entryOf(kind, version, 0)
		if kind != 0 {
			x[id].Line = free[id]
		}
	}
	return x
}

func chancePlay(t *testing.T, r *rand.Rand) *play {
	t.Helper()
	from := r.Intn(50)
	size := 64 + r.Intn(70)
	free := r.Perm(size - from)
	for i := range free {
		free[i] += from
	}
	d := objects.Dir(free[:8])
	return begin(t, size, from, chanceTable(r, free[8:]), d)
}

// chanceDir is the old Dir with other lines in it, most of them taken now.
func (p *play) chanceDir(t *testing.T, r *rand.Rand) objects.Dir {
	t.Helper()
	d := p.dir
	for k := range d {
		switch {
		case r.Intn(3) == 0 && p.left() > 0:
			d[k] = p.takeOne(t)
		case r.Intn(100) == 0:
			d[k] = chanceNumber(r, p.twin.Lines())
		}
	}
	return d
}

func (p *play) asks(t *testing.T, r *rand.Rand) {
	t.Helper()
	ids := make([]int, r.Intn(8))
	for i := range ids {
		ids[i] = chanceNumber(r, 49)
	}
	for _, more := range []int{0, chanceNumber(r, p.left()+2), p.left(), p.left() + 1} {
		room(t, p.s, ids, more, p.roomSaid(ids, more))
	}
	id := r.Intn(49)
	own := p.table[id]
	if own.Kind != 0 {
		names(t, p.s, capOf(own.Kind, r.Intn(16), id, own.Version, r.Intn(1<<16)), id, api.OK)
		names(t, p.s, capOf(own.Kind%4+1, 0, id, own.Version, 0), 0, api.ErrKind)
	} else {
		names(t, p.s, capOf(1+r.Intn(4), 0, id, own.Version, 0), 0, api.ErrNone)
	}
	names(t, p.s, capOf(1+r.Intn(4), 0, id, own.Version^1, 0), 0, api.ErrStale)
}

func (p *play) act(t *testing.T, r *rand.Rand) {
	t.Helper()
	switch r.Intn(16) {
	case 0, 1, 2, 3, 4:
		p.set(t, chanceNumber(r, 49), chanceNumber(r, 8), r.Uint64())
	case 5, 6:
		p.made(t, []int{1, 2, 4, chanceNumber(r, 8)}[r.Intn(4)])
	case 7, 8:
		p.end(t, chanceNumber(r, 49))
	case 9:
		p.takeOne(t)
	case 10, 11:
		p.markAll(t)
	case 12:
		p.commit(t, p.chanceDir(t, r))
	case 13:
		p.abort(t)
	case 14:
		keep := []int{r.Intn(9), r.Intn(9)}
		p.crash(r.Intn(10), keep, func() { p.set(t, r.Intn(49), r.Intn(8), r.Uint64()) })
	default:
		p.crash(r.Intn(10), []int{r.Intn(9)}, func() { p.made(t, api.KindPage) })
	}
}

func TestPlaysOfChance(t *testing.T) {
	r := rand.New(rand.NewSource(10))
	for range 60 {
		p := chancePlay(t, r)
		other := p
		for range 150 {
			p.act(t, r)
			p.asks(t, r)
			p.same(t)
			if r.Intn(30) == 0 {
				other.same(t)
				other, p = p, p.clone()
			}
		}
		other.same(t)
	}
}

package snap_test

import (
	"math"
	"math/rand"
	"testing"

	"steadfast/api"
	"steadfast/nvm"
	"steadfast/objects"
	"steadfast/radix"
)

// play is a machine, and beside it the chapter's words written out a second time, on a memory and a store of their own.
type play struct {
	machine
	twin  *nvm.Memory
	store *objects.Store
	b     api.Super
	slot  int
	todo  []todo
	seq   int
	began radix.Table
	dir   objects.Dir
}

// todo is a step that is left: what is done, and of which line, or leaf.
type todo struct {
	what string
	n    int
}

func beginPlay(t *testing.T, r *rand.Rand) *play {
	t.Helper()
	n := []int{0, 5, 20, 49, r.Intn(50)}[r.Intn(5)]
	x := many(n)
	for id := range x {
		if r.Intn(4) == 0 {
			x[id] = entryOf(api.KindNone, []int{0, 7, topVersion - 1, topVersion}[r.Intn(4)], 0)
		}
	}
	b := oldSuper()
	b.Gen = []int{1, 4, top - 3, 1 << 33}[r.Intn(4)]
	slot := r.Intn(2)
	p := &play{machine: begin(t, max(64, 22+n+r.Intn(120)), x, b, slot), b: b, slot: slot}
	p.twin = p.m.Clone()
	p.store = p.s.Clone(p.twin)
	return p
}

func (p *play) clone() *play {
	other := *p
	other.machine = p.machine.clone()
	other.twin = p.twin.Clone()
	other.store = p.store.Clone(other.twin)
	other.todo = append([]todo(nil), p.todo...)
	return &other
}

func (p *play) beginSaid(seq int) api.Errno {
	if len(p.todo) > 0 {
		return api.ErrState
	}
	if seq < 0 || seq > top || p.b.Gen == top {
		return api.ErrArg
	}
	if e := p.store.Mark(); e != api.OK {
		return e
	}
	p.seq, p.began = seq, p.store.Table()
	base, d := p.store.Base()
	p.dir = d
	old := map[int]bool{}
	for _, own := range base {
		if own.Kind != 0 {
			old[own.Line] = true
		}
	}
	for _, own := range p.began {
		if own.Kind != 0 && !old[own.Line] {
			p.todo = append(p.todo, todo{"object", own.Line})
		}
	}
	for k := range 7 {
		for i := 7 * k; i < 7*k+7; i++ {
			if base[i] != p.began[i] {
				p.todo = append(p.todo, todo{"leaf", k})
				break
			}
		}
	}
	p.todo = append(p.todo, todo{"root", 7}, todo{"fence", 0}, todo{"super", 0})
	return api.OK
}

// put stores words one behind the other, then flushes.
func (p *play) put(line int, l api.Line) api.Errno {
	for w := range 8 {
		if e := p.twin.Store(line, w, l[w]); e != api.OK {
			return e
		}
	}
	return p.twin.Flush(0, line)
}

// lay takes a frame for a line of the directory.
func (p *play) lay(k int, l api.Line) api.Errno {
	line, e := p.store.Take()
	if e == api.OK {
		e = p.put(line, l)
	}
	if e == api.OK {
		p.dir[k] = line
	}
	return e
}

func (p *play) superSaid() api.Errno {
	b := api.Super{Gen: p.b.Gen + 1, Root: p.dir[7], Seq: p.seq, Cores: p.b.Cores}
	slot := 1 - p.slot
	if e := p.twin.Store(slot, 7, 0); e != api.OK {
		return e
	}
	if e := p.put(slot, superLine(b)); e != api.OK {
		return e
	}
	if e := p.twin.Fence(0); e != api.OK {
		return e
	}
	p.store.Commit(p.dir)
	p.b, p.slot = b, slot
	return api.OK
}

func (p *play) stepSaid() (bool, api.Errno) {
	if len(p.todo) == 0 {
		return false, api.ErrState
	}
	first := p.todo[0]
	var e api.Errno
	switch first.what {
	case "object":
		e = p.twin.Flush(0, first.n)
	case "leaf":
		e = p.lay(first.n, leafLine(p.began, first.n))
	case "root":
		e = p.lay(7, rootLine(p.dir))
	case "fence":
		e = p.twin.Fence(0)
	case "super":
		e = p.superSaid()
	}
	switch e {
	case api.OK:
		p.todo = p.todo[1:]
		return len(p.todo) == 0, api.OK
	case api.ErrFull:
		p.store.Abort()
		p.todo = nil
	}
	return false, e
}

// The same call of both.

func (p *play) start(t *testing.T, seq int) {
	t.Helper()
	is(t, p.beginSaid(seq), p.x.Begin(seq))
}

func (p *play) step(t *testing.T) {
	t.Helper()
	done, e := p.stepSaid()
	steps(t, p.machine, done, e)
}

func (p *play) same(t *testing.T) {
	t.Helper()
	want := machine{p.twin, p.store, p.x}.state(t)
	want.left, want.b, want.slot = len(p.todo), p.b, p.slot
	still(t, p.machine, want)
	if t.Failed() {
		t.FailNow()
	}
}

// change is a call of the store.
func (p *play) change(r *rand.Rand) {
	id, word, v, kind := r.Intn(49), r.Intn(8), r.Uint64(), 1+r.Intn(4)
	call := []func(s *objects.Store){
		func(s *objects.Store) { s.Set(id, word, v) },
		func(s *objects.Store) { s.Set(id, word, v) },
		func(s *objects.Store) { s.Make(kind) },
		func(s *objects.Store) { s.End(id) },
	}[r.Intn(4)]
	call(p.s)
	call(p.store)
}

// disturb is what may be done of the memory meanwhile.
func (p *play) disturb(r *rand.Rand) {
	line, n := r.Intn(p.m.Lines()), r.Intn(9)
	keep := [][]int{nil, keepAll(), {r.Intn(20), r.Intn(20), r.Intn(20)}}[r.Intn(3)]
	call := []func(m *nvm.Memory){
		func(m *nvm.Memory) { m.Evict(line, n) },
		func(m *nvm.Memory) { m.Flush(n%8, line) },
		func(m *nvm.Memory) { m.Fence(n % 8) },
		func(m *nvm.Memory) { m.Fuse(n * 2) },
		func(m *nvm.Memory) { m.Crash(keep) },
		func(m *nvm.Memory) { m.Crash(keep) },
	}[r.Intn(6)]
	call(p.m)
	call(p.twin)
}

func (p *play) act(t *testing.T, r *rand.Rand) {
	t.Helper()
	switch n := r.Intn(40); {
	case n < 12:
		p.change(r)
	case n < 32:
		p.step(t)
	case n < 37:
		p.start(t, []int{0, 6, top, r.Intn(top), far()[r.Intn(len(far()))]}[r.Intn(5)])
	case n == 37:
		p.disturb(r)
	case n == 38 && !p.m.On():
		p.m.Crash(keepAll())
		p.twin.Crash(keepAll())
	case len(p.todo) == 0 && r.Intn(4) == 0:
		// The caller marks a table, and lets it go later on.
		is(t, p.store.Mark(), p.s.Mark())
	case len(p.todo) == 0:
		is(t, p.store.Abort(), p.s.Abort())
	}
}

func TestPlaysOfChance(t *testing.T) {
	r := rand.New(rand.NewSource(11))
	for range 60 {
		p := beginPlay(t, r)
		other := p
		for range 200 {
			p.act(t, r)
			p.same(t)
			if r.Intn(30) == 0 {
				other.same(t)
				other, p = p, p.clone()
			}
		}
		other.same(t)
	}
}

// Without a power that goes off within: what comes back is what there was when the checkpoint began that was committed last, whatever is kept.
func TestWhatComesBackInPlaysOfChance(t *testing.T) {
	r := rand.New(rand.NewSource(12))
	for range 60 {
		p := beginPlay(t, r)
		was := p.shot(t)
		now, count := was, 0
		for range 150 {
			if len(p.todo) == 0 {
				now, count = p.shot(t), 0
				p.start(t, r.Intn(top))
			}
			for range r.Intn(4) {
				p.change(r)
			}
			b := p.b
			p.step(t)
			count++
			if p.b != b {
				was = now
			}
			if count > 59 || len(p.todo) > 59-count {
				t.Errorf("%d steps, and %d left", count, len(p.todo))
			}
			if r.Intn(5) == 0 {
				keep := []int{r.Intn(20), r.Intn(20), math.MaxInt - r.Intn(9), r.Intn(20)}
				comesBack(t, p.m, keep, p.b, p.slot, was)
			}
		}
		p.same(t)
	}
}

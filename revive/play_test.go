package revive_test

import (
	"math/rand"
	"testing"

	"steadfast/api"
	"steadfast/nvm"
	"steadfast/objects"
	"steadfast/revive"
	"steadfast/rlog"
	"steadfast/snap"
)

func pick[T any](r *rand.Rand, of ...T) T { return of[r.Intn(len(of))] }

// objectsOfChance may be, but for one of them now and then.
func objectsOfChance(r *rand.Rand) []api.Object {
	l := some(pick(r, 0, 1, 5, 20, 49, r.Intn(50)))
	for id := range l {
		l[id].Kind, l[id].Version = r.Intn(5), pick(r, 0, 1, topVersion, r.Intn(topVersion))
		if l[id].Kind == 0 {
			l[id].L = api.Line{}
		}
	}
	if len(l) > 0 && r.Intn(8) == 0 {
		o := &l[r.Intn(len(l))]
		*o = pick(r, api.Object{Kind: 5}, api.Object{Kind: -1}, api.Object{Version: topVersion + 1}, api.Object{Kind: 1, Version: -1}, api.Object{L: api.Line{7: 1}})
	}
	return l
}

// imageOfChance is laid out anywhere behind the logs, with records; in some of them one thing is wrong.
func imageOfChance(r *rand.Rand) []api.Line {
	cores := 1 + r.Intn(8)
	from, size := 2+4*cores, pick(r, 64, 64+r.Intn(40))
	i := image{b: api.Super{Gen: 1 + r.Intn(5), Seq: pick(r, 0, 5, 9, top, r.Intn(20)), Cores: cores}}
	for n := range size {
		i.all = append(i.all, lineOf(n))
	}
	free := r.Perm(size - from)
	next := func() int {
		line := from + free[0]
		free = free[1:]
		return line
	}
	for at := range i.d {
		i.d[at] = next()
	}
	for id := range i.x {
		i.x[id] = api.Entry{Kind: r.Intn(5), Version: r.Intn(3)}
		if i.x[id].Kind != 0 && len(free) > r.Intn(20) {
			i.x[id].Line = next()
		} else {
			i.x[id].Kind = 0
		}
	}
	i.b.Root = i.d[7]
	for line := 2; line < from; line++ {
		if r.Intn(4) > 0 {
			i.all[line] = recordLine(api.Record{Seq: pick(r, 1+r.Intn(20), i.b.Seq, i.b.Seq+1, 1+r.Intn(top)), Id: r.Intn(49), Word: r.Intn(8), Value: r.Uint64()})
		}
	}
	spoil(r, &i, from)
	return i.all
}

// spoil lays i out, and lets something be wrong with it, or not.
func spoil(r *rand.Rand, i *image, from int) {
	line := pick(r, 0, 1, from-1, from, len(i.all), i.d[r.Intn(8)], i.x[r.Intn(49)].Line, 1023)
	switch r.Intn(14) {
	case 0:
		i.d[r.Intn(8)] = line
	case 1:
		if x := &i.x[r.Intn(49)]; x.Kind != 0 {
			x.Line = line
		}
	case 2:
		i.b.Root = line
	case 3:
		i.b.Cores = r.Intn(10)
	}
	root := i.d[7]
	i.d[7] = min(root, len(i.all)-1)
	for at := range i.d {
		i.d[at] = min(i.d[at], len(i.all)-1)
	}
	i.lay()
	if r.Intn(2) == 0 {
		i.all[0] = superLine(api.Super{Gen: 1 + r.Intn(6), Root: pick(r, i.b.Root, 40), Seq: r.Intn(20), Cores: 1 + r.Intn(8)})
	}
	if r.Intn(8) == 0 {
		i.all[r.Intn(len(i.all))][r.Intn(8)] ^= 1 << r.Intn(64)
	}
}

// Of images of chance: what Boot tells and does, twice.
func TestImagesOfChance(t *testing.T) {
	r := rand.New(rand.NewSource(12))
	there := map[api.Errno]int{}
	for range 3000 {
		m := memoryOf(t, imageOfChance(r))
		if r.Intn(4) == 0 {
			m.Fuse(r.Intn(60))
		}
		a, _ := boots(t, m)
		there[a.e]++
		m.Crash(pick(r, keeps()...))
		boots(t, m)
		if t.Failed() {
			t.FailNow()
		}
	}
	for _, e := range []api.Errno{api.OK, api.ErrNoImage, api.ErrImage, api.ErrPower, api.ErrFull} {
		if there[e] < 10 {
			t.Errorf("%d images alone told %v", there[e], e)
		}
	}
}

// act is a call of a memory, of its image, or of what makes one.
func act(t *testing.T, r *rand.Rand, m *nvm.Memory, i *revive.Image) {
	t.Helper()
	switch r.Intn(12) {
	case 0, 1:
		formats(t, m, pick(r, 0, 1, 2, 8, 9, 1+r.Intn(8)), objectsOfChance(r))
		i.Store = nil
	case 2, 3, 4:
		_, *i = boots(t, m)
	case 5:
		m.Fuse(pick(r, -1, 0, r.Intn(20), r.Intn(600)))
	case 6, 7:
		m.Crash(pick(r, keeps()...))
		i.Store = nil
	case 8:
		m.Evict(r.Intn(m.Lines()), r.Intn(9))
	case 9:
		m.Flush(pick(r, 0, 1), r.Intn(m.Lines()))
		m.Fence(r.Intn(2))
	default:
		if i.Store == nil {
			break
		}
		i.Store.Set(r.Intn(49), r.Intn(8), r.Uint64())
		e := rlog.Append(m, r.Intn(i.Super.Cores), i.Super.Seq, api.Record{Seq: i.Next, Id: r.Intn(49), Word: r.Intn(8), Value: r.Uint64()})
		if e == api.OK {
			i.Next++
		}
	}
}

func TestPlaysOfChance(t *testing.T) {
	r := rand.New(rand.NewSource(13))
	for range 150 {
		m, i := noughts(t, 64+r.Intn(60)), revive.Image{}
		for range 60 {
			act(t, r, m, &i)
			if t.Failed() {
				t.FailNow()
			}
		}
	}
}

// shot is what there is: all objects, wherever they stand.
type shot [api.Objects]api.Object

func shotOf(t *testing.T, s *objects.Store) shot {
	t.Helper()
	var all shot
	for id, own := range s.Table() {
		all[id] = api.Object{Version: own.Version}
		if own.Kind == 0 {
			continue
		}
		o, e := s.Get(id)
		if e != api.OK {
			t.Fatalf("Get(%d) = %v", id, e)
		}
		all[id] = o
	}
	return all
}

// with is a shot with what was journalled above seq.
func (a shot) with(seq int, l []api.Record) shot {
	for _, r := range l {
		if r.Seq > seq && a[r.Id].Kind == api.KindPage {
			a[r.Id].L[r.Word] = r.Value
		}
	}
	return a
}

// life is a machine that is used, has checkpoints and crashes; beside it what is to come back.
type life struct {
	m *nvm.Memory
	revive.Image
	x *snap.Snap
	// base is what was committed last, begun what a checkpoint under way has.
	base, begun       shot
	baseSeq, begunSeq int
	journal           []api.Record
}

func (v *life) boot(t *testing.T) {
	t.Helper()
	_, v.Image = boots(t, v.m)
	if v.Store == nil {
		t.Fatal("no image")
	}
	v.x = snap.New(v.m, v.Store, v.Super, v.Slot)
}

// keep journals a write, then does it; it is on its way, if the power goes off.
func (v *life) keep(r *rand.Rand) (onItsWay bool) {
	id := r.Intn(49)
	if v.Store.Table()[id].Kind != api.KindPage {
		return false
	}
	w := api.Record{Seq: v.Next, Id: id, Word: r.Intn(8), Value: r.Uint64()}
	b, _ := v.x.Super()
	switch rlog.Append(v.m, r.Intn(b.Cores), b.Seq, w) {
	case api.OK:
		v.Next++
		v.journal = append(v.journal, w)
		v.Store.Set(w.Id, w.Word, w.Value)
	case api.ErrPower:
		v.journal = append(v.journal, w)
		return true
	}
	return false
}

// step begins a checkpoint, or does a step of it; it is on its way, if the power goes off in the last one.
func (v *life) step(t *testing.T) (onItsWay bool) {
	t.Helper()
	if v.x.Left() == 0 {
		v.begun, v.begunSeq = shotOf(t, v.Store), v.Next-1
		v.x.Begin(v.begunSeq)
		return false
	}
	last := v.x.Left() == 1
	done, e := v.x.Step()
	if done {
		v.base, v.baseSeq = v.begun, v.begunSeq
	}
	return last && e == api.ErrPower
}

// comesBack boots behind a crash: there is what was committed, or was just being committed, and all that was journalled, but maybe for the last record.
func (v *life) comesBack(t *testing.T, keep []int, commits, keeps bool) {
	t.Helper()
	b, slot := v.x.Super()
	v.m.Crash(keep)
	v.boot(t)
	if commits && v.Super.Gen == b.Gen+1 {
		v.base, v.baseSeq = v.begun, v.begunSeq
		b, slot = api.Super{Gen: b.Gen + 1, Root: v.Super.Root, Seq: v.begunSeq, Cores: b.Cores}, 1-slot
	}
	if v.Super != b || v.Slot != slot {
		t.Errorf("the superblock is %v, %d, want %v, %d", v.Super, v.Slot, b, slot)
	}
	// What was on its way is there whole, or not at all: Next tells.
	if n := len(v.journal); keeps && v.Next <= v.journal[n-1].Seq {
		v.journal = v.journal[:n-1]
	}
	if is, want := shotOf(t, v.Store), v.base.with(v.baseSeq, v.journal); is != want {
		t.Errorf("there is %v, want %v", is, want)
	}
	for _, w := range v.journal {
		if v.Next <= w.Seq {
			t.Errorf("Next = %d, with %v", v.Next, w)
		}
	}
}

// use is anything that is done of the store: with the power off nothing is done.
func (v *life) use(r *rand.Rand) {
	switch r.Intn(6) {
	case 0:
		v.Store.Make(1 + r.Intn(4))
	case 1:
		v.Store.End(r.Intn(49))
	default:
		v.Store.Set(r.Intn(49), r.Intn(8), r.Uint64())
	}
}

// A machine that is used comes back, time and again, wherever the power goes off.
func TestLivesOfChance(t *testing.T) {
	r := rand.New(rand.NewSource(14))
	for range 40 {
		v := &life{m: noughts(t, 160)}
		l := some(20 + r.Intn(20))
		is(t, api.OK, formats(t, v.m, 1+r.Intn(4), l))
		v.boot(t)
		v.base = shotOf(t, v.Store)
		for range 40 {
			if r.Intn(2) == 0 {
				v.m.Fuse(r.Intn(300))
			}
			commits, keeps := false, false
			for n := r.Intn(80); n >= 0 && v.m.On(); n-- {
				switch r.Intn(4) {
				case 0:
					keeps = v.keep(r)
				case 1:
					v.use(r)
				default:
					commits = v.step(t)
				}
				if r.Intn(9) == 0 {
					v.m.Evict(r.Intn(160), r.Intn(9))
				}
			}
			keep := make([]int, 160)
			for at := range keep {
				keep[at] = pick(r, 0, everything, r.Intn(1000))
			}
			v.comesBack(t, pick(r, nil, keepAll(), keep), commits, keeps)
			if t.Failed() {
				t.FailNow()
			}
		}
	}
}

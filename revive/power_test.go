package revive_test

import (
	"math"
	"slices"
	"testing"

	"steadfast/api"
	"steadfast/nvm"
	"steadfast/revive"
)

// everything, as a number of what a crash keeps, keeps all of up to 19 stores of a line: it is one less than a number that 1 to 20 divide.
const everything = 232792560 - 1

func keepAll() []int {
	return slices.Repeat([]int{everything}, 130)
}

// keeps are what crashes keep: nothing, some, all.
func keeps() [][]int {
	all := [][]int{nil, {}}
	for k := range 10 {
		all = append(all, slices.Repeat([]int{k}, 130), []int{k})
	}
	for _, k := range []int{1, 8, everything} {
		all = append(all, []int{0, k}, []int{0, 0, k}, []int{k, 0, k, 0, k, 0, k}, append(slices.Repeat([]int{0}, 5), slices.Repeat([]int{k}, 100)...))
	}
	return append(all, keepAll(), slices.Repeat([]int{math.MinInt}, 9), slices.Repeat([]int{math.MaxInt}, 9))
}

// imageScenes are memories with images of all sorts: with records, and without, in either slot, with stores that are not sure.
func imageScenes(t *testing.T) []*nvm.Memory {
	t.Helper()
	fresh := formatted(t, 64, 1, page())
	plain := memoryOf(t, few().all)
	records := journal(t, api.Record{Seq: 9, Id: 0, Word: 1, Value: 1}, api.Record{Seq: 6, Id: 48, Word: 2, Value: 2}, api.Record{Seq: 7, Id: 8, Word: 3, Value: 3}, api.Record{Seq: 8, Id: 48, Word: 3, Value: 4}, api.Record{Seq: 10, Id: 1, Word: 3, Value: 4}, api.Record{Seq: 5, Id: 8, Word: 3, Value: 9}, api.Record{Seq: 9, Id: 0, Word: 1, Value: 7})
	appended := formatted(t, 128, 8, some(49))
	for n := range 32 {
		appends(t, appended, n%8, 0, api.Record{Seq: 40 - n, Id: (5 * n) % 49, Word: n % 8, Value: uint64(n)})
	}
	unsure := journal(t, api.Record{Seq: 6, Id: 48, Word: 2, Value: 2}, api.Record{Seq: 7, Id: 0, Word: 2, Value: 2})
	for line := 23; line < 30; line++ {
		is(t, api.OK, unsure.Store(line, 1, 5), unsure.Flush(0, line), unsure.Store(line, 2, 6))
	}
	return []*nvm.Memory{fresh, plain, records, appended, unsure}
}

// bootScenes are these, and some that tell an error.
func bootScenes(t *testing.T) []*nvm.Memory {
	t.Helper()
	half := formatted(t, 65, 2, some(46))
	appends(t, half, 0, 0, api.Record{Seq: 1, Id: 4, Word: 7, Value: 6})
	appends(t, half, 1, 0, api.Record{Seq: 2, Id: 8, Word: 7, Value: 6})
	return append(imageScenes(t), formatFull(t), half, noughts(t, 64))
}

// The power goes off at every store of Boot: that is told, and behind any crash Boot tells what it would have told.
func TestPowerOffInBoot(t *testing.T) {
	for _, m := range bootScenes(t) {
		c := m.Clone()
		was, _ := boots(t, c)
		for fuse := range c.Steps() - m.Steps() {
			cut := m.Clone()
			cut.Fuse(fuse)
			if a, _ := boots(t, cut); a.e != api.ErrPower || cut.On() || cut.Steps() != m.Steps()+fuse {
				t.Errorf("with a fuse of %d Boot tells %v", fuse, a)
			}
			refuses(t, cut, api.ErrPower)
			for _, keep := range keeps() {
				again := cut.Clone()
				again.Crash(keep)
				if a, _ := tell(t, again); a != was {
					t.Errorf("with a fuse of %d, and %v kept, Boot tells %v, then %v", fuse, keep, was, a)
				}
			}
		}
		// With just as many steps as it takes, the power is on behind it.
		c = m.Clone()
		c.Fuse(lastStep(t, m))
		if a, _ := boots(t, c); a != was || !c.On() {
			t.Errorf("Boot tells %v, want %v", a, was)
		}
	}
}

func lastStep(t *testing.T, m *nvm.Memory) int {
	t.Helper()
	c := m.Clone()
	tell(t, c)
	return c.Steps() - m.Steps()
}

// The power goes off time and again, at each store a bit later: the image comes back in the end.
func TestPowerOffInBootTimeAndAgain(t *testing.T) {
	for _, m := range bootScenes(t) {
		was, _ := tell(t, m.Clone())
		c := m.Clone()
		for fuse := range lastStep(t, m) {
			c.Fuse(fuse)
			if a, _ := boots(t, c); a.e != api.ErrPower {
				t.Errorf("with a fuse of %d Boot tells %v", fuse, a)
			}
			c.Crash(keeps()[fuse%len(keeps())])
		}
		if a, _ := boots(t, c); a != was {
			t.Errorf("Boot tells %v, then %v", was, a)
		}
	}
}

// formatting is a Format of a memory in which something stands.
type formatting struct {
	m     *nvm.Memory
	cores int
	l     []api.Object
}

func formatScenes(t *testing.T) []formatting {
	t.Helper()
	twice := memoryOf(t, few().all)
	older := twice.Sure()
	older[0] = superLine(api.Super{Gen: 3, Root: 17, Seq: 2, Cores: 2})
	older[2] = recordLine(api.Record{Seq: 9, Id: 48, Word: 1, Value: 1})
	return []formatting{
		{noughts(t, 64), 1, nil},
		{noughts(t, 64), 3, []api.Object{{Version: 3}, {Kind: api.KindPage, L: lineOf(9)}, {}, {Kind: api.KindGate, Version: topVersion}}},
		{twice, 2, page()},
		{memoryOf(t, older), 1, some(3)},
		{dirty(t, top), 8, some(5)},
		{formatted(t, 64, 2, some(4)), 2, page()},
	}
}

// The power goes off at every store, flush and fence of Format: that is told, and behind any crash the old image comes back, or none, or the new one.
func TestPowerOffInFormat(t *testing.T) {
	for n, f := range formatScenes(t) {
		old, _ := tell(t, f.m.Clone())
		c := f.m.Clone()
		is(t, api.OK, formats(t, c, f.cores, f.l))
		fresh, _ := boots(t, c.Clone())
		p := cut{formatting: f, old: old, fresh: fresh, steps: c.Steps() - f.m.Steps()}
		for fuse := range p.steps {
			p.at(t, fuse)
		}
		if t.Failed() {
			t.Fatalf("of the scene %d", n)
		}
	}
}

// cut is a Format that is cut short: what Boot tells ahead of it, and behind it.
type cut struct {
	formatting
	old, fresh told
	steps      int
}

func (p cut) at(t *testing.T, fuse int) {
	t.Helper()
	c := p.m.Clone()
	c.Fuse(fuse)
	if e := formats(t, c, p.cores, p.l); e != api.ErrPower || c.On() || c.Steps() != p.m.Steps()+fuse {
		t.Errorf("with a fuse of %d Format = %v", fuse, e)
	}
	refusesToFormat(t, c, p.cores, p.l, api.ErrPower)
	refuses(t, c, api.ErrPower)
	for _, keep := range keeps() {
		again := c.Clone()
		again.Crash(keep)
		p.behind(t, again, fuse, keep)
	}
	// Format again, on what is left of it, makes the image.
	for _, keep := range [][]int{nil, {3, 1, 2}, keepAll()} {
		again := c.Clone()
		again.Crash(keep)
		is(t, api.OK, formats(t, again, p.cores, p.l))
		again.Crash(nil)
		if a, _ := tell(t, again); a != p.fresh {
			t.Errorf("Boot tells %v, want %v", a, p.fresh)
		}
	}
}

// behind asks what Boot tells behind a crash: of what was wiped nothing once the fence is through, of the new image nothing ahead of the superblock's last word.
func (p cut) behind(t *testing.T, m *nvm.Memory, fuse int, keep []int) {
	t.Helper()
	said := bootSaid(m.Clone())
	a, _ := tell(t, m)
	if a != said {
		t.Errorf("with a fuse of %d, and %v kept, Boot tells %v, want %v", fuse, keep, a, said)
	}
	wiped, written := 2*(2+4*p.cores)+1, p.steps-2
	switch {
	case fuse >= wiped && fuse < written && a.e != api.ErrNoImage:
		t.Errorf("with a fuse of %d, and %v kept, Boot tells %v", fuse, keep, a)
	case fuse >= written && a.e != api.ErrNoImage && a != p.fresh:
		t.Errorf("with a fuse of %d, and %v kept, Boot tells %v, want %v", fuse, keep, a, p.fresh)
	case fuse == 0 && len(keep) == 0 && p.m.Steps() == 0 && a != p.old:
		t.Errorf("with nothing done, Boot tells %v, want %v", a, p.old)
	}
	if b, _ := tell(t, m); b != a {
		t.Errorf("Boot tells %v, then %v", a, b)
	}
}

// What was made is sure: behind any crash, and whatever the fuse was, if it was long enough.
func TestFormatIsSure(t *testing.T) {
	for _, f := range formatScenes(t) {
		c := f.m.Clone()
		is(t, api.OK, revive.Format(c, f.cores, f.l))
		fresh, _ := tell(t, c)
		for _, keep := range keeps() {
			c := f.m.Clone()
			c.Fuse(2*(2+4*f.cores) + 1 + 9*(len(layoutLines(f))) + 1 + 11)
			is(t, api.OK, formats(t, c, f.cores, f.l))
			c.Crash(keep)
			if a, _ := boots(t, c); a != fresh {
				t.Errorf("with %v kept, Boot tells %v, want %v", keep, a, fresh)
			}
		}
	}
}

// layoutLines are the frames of an image.
func layoutLines(f formatting) []int {
	x, d := layout(f.cores, f.l)
	all := d[:]
	for _, own := range x {
		if own.Kind != 0 {
			all = append(all, own.Line)
		}
	}
	return all
}

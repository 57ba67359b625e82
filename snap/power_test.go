package snap_test

import (
	"testing"

	"steadfast/api"
)

// scenes are machines whose next checkpoint has steps of all sorts, with some of them sure already, and in either slot.
func scenes(t *testing.T) []machine {
	t.Helper()
	nothing := begin(t, 96, few(), oldSuper(), 0)

	some := fewMachine(t)
	set(t, some, 0, 0, 5)
	makes(t, some, api.KindPage)
	end(t, some, 30)

	second := begin(t, 96, few(), oldSuper(), 0)
	set(t, second, 1, 1, 6)
	checkpoint(t, second, 5)
	set(t, second, 1, 2, 7)
	set(t, second, 48, 0, 8)
	second.m.Evict(second.s.Table()[48].Line, 3)

	again := crowd(t, 1, 3)
	is(t, api.OK, again.x.Begin(5))
	steps(t, again, false, api.OK)
	steps(t, again, false, api.OK)
	drain(t, again, 0)
	steps(t, again, false, api.ErrFull)
	end(t, again, 1)
	set(t, again, 0, 1, 9)
	again.m.Flush(1, again.s.Table()[0].Line)
	// This one has just the frames for a checkpoint, and one for a step that is done again.
	tight := crowd(t, 1, 3)
	return []machine{nothing, some, second, again, tight}
}

// cost is how many steps of the memory the next step does.
func cost(t *testing.T, c machine) int {
	t.Helper()
	d := c.clone()
	d.x.Step()
	return d.m.Steps() - c.m.Steps()
}

// The power goes off at every step's every store, flush and fence.
func TestPower(t *testing.T) {
	for _, c := range scenes(t) {
		base, _ := c.s.Base()
		p := power{old: shotOf(t, c.m, base), began: c.shot(t)}
		p.b, p.slot = c.x.Super()
		is(t, api.OK, c.x.Begin(6))
		for c.x.Left() > 0 && !t.Failed() {
			for fuse := range cost(t, c) {
				p.cut(t, c.clone(), fuse)
			}
			steps(t, c, c.x.Left() == 1, api.OK)
		}
	}
}

// power is what there was when a checkpoint of seq 6 began, and ahead of it.
type power struct {
	old, began shot
	b          api.Super
	slot       int
}

// cut lets the power go off behind so many steps of the memory.
func (p power) cut(t *testing.T, c machine, fuse int) {
	t.Helper()
	was, writes := c.state(t), cost(t, c) == 9
	c.m.Fuse(fuse)
	steps(t, c, false, api.ErrPower)
	now := c.state(t)
	if now.on || now.steps != was.steps+fuse {
		t.Errorf("the power is on, %v, behind %d steps, want %d", now.on, now.steps-was.steps, fuse)
	}
	if writes {
		// The frame was taken ahead of the memory's error.
		was.frames--
	}
	// The memory is another one: all else is as it was.
	was.has, was.sure, was.fenced, was.steps, was.on = now.has, now.sure, now.fenced, now.steps, now.on
	still(t, c, was)
	for _, keep := range keeps() {
		p.comesBack(t, c, keep, fuse)
	}
	p.goesOn(t, c.clone(), keepAll(), true)
	p.goesOn(t, c.clone(), nil, was.left == 1)
	p.goesOn(t, c.clone(), []int{3, 1, 2}, was.left == 1)
	p.staysOff(t, c)
}

// comesBack asks for the old image, but of the last step, if all nine stores of the superblock were done and are kept.
func (p power) comesBack(t *testing.T, c machine, keep []int, fuse int) {
	t.Helper()
	if c.x.Left() == 1 && fuse >= 9 && kept(keep, 9) == 9 {
		comesBack(t, c.m, keep, nextSuper(p.b, rootOf(c), 6), 1-p.slot, p.began)
		return
	}
	comesBack(t, c.m, keep, p.b, p.slot, p.old)
}

// kept is how many of a line's n stores a crash keeps, if it is the first line that is not sure.
func kept(keep []int, n int) int {
	switch {
	case len(keep) == 0:
		return 0
	case keep[0] < 0:
		return -(keep[0] + 1) % (n + 1)
	}
	return keep[0] % (n + 1)
}

// rootOf is the root that a checkpoint wrote whose last step is left.
func rootOf(c machine) int {
	d := c.clone()
	d.m.Crash(nil)
	d.x.Step()
	b, _ := d.x.Super()
	return b.Root
}

// goesOn does the step again, once the power is on, and all others; if nothing was lost, what it commits is what there was.
func (p power) goesOn(t *testing.T, c machine, keep []int, whole bool) {
	t.Helper()
	c.m.Crash(keep)
	finish(t, c)
	b, slot := c.x.Super()
	if b != nextSuper(p.b, b.Root, 6) || slot != 1-p.slot {
		t.Errorf("Super = %v, %d", b, slot)
	}
	frees(t, c, unnamed(c))
	if whole {
		comesBack(t, c.m, nil, b, slot, p.began)
	}
}

// staysOff asks for the same error, as long as the power is off.
func (p power) staysOff(t *testing.T, c machine) {
	t.Helper()
	n, done := c.x.Left(), c.m.Steps()
	for c.s.Left() > 0 && n > 0 {
		steps(t, c, false, api.ErrPower)
		left(t, c, n)
		is(t, api.ErrState, c.x.Begin(6))
		if _, e := c.s.Take(); e != api.OK {
			break
		}
	}
	if c.m.Steps() != done {
		t.Errorf("%d steps of the memory with the power off", c.m.Steps()-done)
	}
}

// With the power off a checkpoint begins all the same: it is the first step that tells.
func TestBeginWithThePowerOff(t *testing.T) {
	c := fewMachine(t)
	c.m.Fuse(0)
	is(t, api.ErrPower, c.m.Fence(0))
	is(t, api.OK, c.x.Begin(6))
	steps(t, c, false, api.ErrPower)
	left(t, c, 3)
	c.m.Crash(nil)
	was := c.shot(t)
	finish(t, c)
	b, slot := c.x.Super()
	comesBack(t, c.m, nil, b, slot, was)
}

// P11.5

// A checkpoint of all that there may be, with all that may be done in between.
func TestWhatIsCommitted(t *testing.T) {
	for gap := range 59 {
		c := begin(t, 320, many(49), oldSuper(), gap%2)
		for id := range 49 {
			set(t, c, id, id%8, uint64(1000+id))
		}
		was := c.shot(t)
		is(t, api.OK, c.x.Begin(6))
		left(t, c, 59)
		n := 0
		for done := false; !done; n++ {
			if n == gap || n == gap-7 {
				changeAll(t, c, n)
			}
			d, e := c.x.Step()
			if e != api.OK {
				t.Fatalf("Step = %v", e)
			}
			done = d
		}
		if n != 59 {
			t.Errorf("%d steps", n)
		}
		b, slot := c.x.Super()
		changeAll(t, c, n)
		for _, keep := range keeps() {
			comesBack(t, c.m, keep, b, slot, was)
		}
		if base, _ := c.s.Base(); base != was.x {
			t.Errorf("the base is %v, want %v", base, was.x)
		}
	}
}

// changeAll sets each object's words, ends some, and makes others in their places.
func changeAll(t *testing.T, c machine, n int) {
	t.Helper()
	for id, own := range c.s.Table() {
		if own.Kind == api.KindNone {
			continue
		}
		for w := range 8 {
			set(t, c, id, w, uint64(77*n+w))
		}
		if id%5 == n%5 {
			end(t, c, id)
		}
		if id%10 == n%10 {
			set(t, c, makes(t, c, api.KindNode), 1, 5)
		}
	}
}

// P11.4

func TestCloneOfAnIdleOne(t *testing.T) {
	c := fewMachine(t)
	set(t, c, 0, 0, 1)
	was := c.state(t)
	d := c.clone()
	still(t, d, was)
	checkpoint(t, d, 6)
	still(t, c, was)
	now := d.state(t)
	checkpoint(t, c, 6)
	still(t, c, now)
	still(t, d, now)
}

// Of a clone at each step: what one does is not seen by the other.
func TestCloneUnderWay(t *testing.T) {
	for at := range 60 {
		c := begin(t, 320, many(49), oldSuper(), 1)
		for id := range 49 {
			set(t, c, id, 0, uint64(id)+7)
		}
		began := c.shot(t)
		is(t, api.OK, c.x.Begin(6))
		for range at {
			steps(t, c, c.x.Left() == 1, api.OK)
		}
		was := c.state(t)
		d := c.clone()
		still(t, d, was)
		finish(t, d)
		b, slot := d.x.Super()
		comesBack(t, d.m, nil, b, slot, began)
		still(t, c, was)
		// The other one has a checkpoint of its own meanwhile: the steps are no longer the same ones.
		now := d.state(t)
		set(t, d, 5, 5, 5)
		checkpoint(t, d, 7)
		set(t, d, 9, 9%8, 5)
		is(t, api.OK, d.x.Begin(8))
		still(t, c, was)
		finish(t, c)
		still(t, c, now)
		left(t, d, 5)
		last := d.shot(t)
		finish(t, d)
		b, slot = d.x.Super()
		comesBack(t, d.m, nil, b, slot, last)
	}
}

// A clone that finds no frame lets its own checkpoint go, the other one commits: and the other way round.
func TestCloneThatIsFull(t *testing.T) {
	for n := range 2 {
		c := crowd(t, 3, 4)
		began := c.shot(t)
		is(t, api.OK, c.x.Begin(6))
		for range 4 + 2*n {
			steps(t, c, false, api.OK)
		}
		d := c.clone()
		if n == 1 {
			c, d = d, c
		}
		drain(t, d, 0)
		was := c.state(t)
		steps(t, d, false, api.ErrFull)
		left(t, d, 0)
		still(t, c, was)
		finish(t, c)
		b, slot := c.x.Super()
		comesBack(t, c.m, nil, b, slot, began)
		supers(t, d, oldSuper(), 1)
		checkpoint(t, d, 9)
		supers(t, c, b, slot)
	}
}

// A clone of a clone is as good, and the power of one is not the other's.
func TestCloneOfAClone(t *testing.T) {
	c := fewMachine(t)
	set(t, c, 0, 0, 1)
	began := c.shot(t)
	is(t, api.OK, c.x.Begin(6))
	steps(t, c, false, api.OK)
	was := c.state(t)
	d := c.clone()
	f := d.clone()
	d.m.Fuse(3)
	steps(t, d, false, api.ErrPower)
	still(t, c, was)
	still(t, f, was)
	finish(t, f)
	b, slot := f.x.Super()
	comesBack(t, f.m, nil, b, slot, began)
	steps(t, d, false, api.ErrPower)
	left(t, d, 4)
	still(t, c, was)
	finish(t, c)
	comesBack(t, c.m, nil, b, slot, began)
}

// A clone works on the memory and the store that it is given.
func TestCloneOnOthers(t *testing.T) {
	c, other := fewMachine(t), begin(t, 64, many(3), oldSuper(), 1)
	was := c.state(t)
	d := machine{other.m, other.s, c.x.Clone(other.m, other.s)}
	set(t, d, 2, 3, 4)
	began := d.shot(t)
	checkpoint(t, d, 9)
	b, slot := d.x.Super()
	comesBack(t, other.m, nil, b, slot, began)
	still(t, c, was)
}

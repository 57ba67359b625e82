package revive_test

import (
	"encoding/binary"
	"hash/crc32"
	"slices"
	"testing"

	"steadfast/api"
	"steadfast/nvm"
	"steadfast/objects"
	"steadfast/radix"
	"steadfast/revive"
)

// Here stand the chapter's words, written out a second time: on a memory of their own, and without the packages between.

const (
	top        = 1 << 40
	topVersion = 1<<24 - 1
)

// sealed lays words out with their sum behind; so do the next four.
func sealed(w []uint64) api.Line {
	var l api.Line
	copy(l[:7], w)
	var b []byte
	for _, x := range l[:7] {
		b = binary.LittleEndian.AppendUint64(b, x)
	}
	l[7] = 1<<32 + uint64(crc32.ChecksumIEEE(b))
	return l
}

func leafLine(x radix.Table, k int) api.Line {
	var w []uint64
	for _, own := range x[7*k : 7*k+7] {
		w = append(w, uint64(own.Kind)+uint64(own.Version)<<4+uint64(own.Line)<<28)
	}
	return sealed(w)
}

func rootLine(d objects.Dir) api.Line {
	var w []uint64
	for _, line := range d[:7] {
		w = append(w, 1<<32+uint64(line))
	}
	return sealed(w)
}

func superLine(b api.Super) api.Line {
	return sealed([]uint64{0x5afec0de, uint64(b.Gen), uint64(b.Root), uint64(b.Seq), uint64(b.Cores)})
}

func recordLine(r api.Record) api.Line {
	return sealed([]uint64{0x10600000, uint64(r.Seq), uint64(r.Id), uint64(r.Word), r.Value})
}

func in(n, least, most int) bool { return least <= n && n <= most }

func superOf(l api.Line) (api.Super, bool) {
	b := api.Super{Gen: int(l[1]), Root: int(l[2]), Seq: int(l[3]), Cores: int(l[4])}
	return b, in(b.Gen, 1, top) && in(b.Root, 0, 1023) && in(b.Seq, 0, top) && in(b.Cores, 1, 8) && l == superLine(b)
}

func recordOf(l api.Line) (api.Record, bool) {
	r := api.Record{Seq: int(l[1]), Id: int(l[2]), Word: int(l[3]), Value: l[4]}
	return r, in(r.Seq, 1, top) && in(r.Id, 0, 48) && in(r.Word, 0, 7) && l == recordLine(r)
}

// entriesOf are the entries of the leaf k, in a table that has no others.
func entriesOf(l api.Line, k int) (x radix.Table, ok bool) {
	for i := range 7 {
		own := api.Entry{Kind: int(l[i] & 15), Version: int(l[i] >> 4 & topVersion), Line: int(l[i] >> 28 & 65535)}
		if own.Kind > 4 || own.Line > 1023 || own.Kind == 0 && own.Line != 0 {
			return radix.Table{}, false
		}
		x[7*k+i] = own
	}
	return x, l == leafLine(x, k)
}

func leavesOf(l api.Line) (d objects.Dir, ok bool) {
	for k := range 7 {
		d[k] = int(l[k] - 1<<32)
		if !in(d[k], 0, 1023) {
			return objects.Dir{}, false
		}
	}
	return d, l == rootLine(d)
}

// told is what Boot tells.
type told struct {
	e                        api.Errno
	b                        api.Super
	slot, next, frames       int
	table, base              radix.Table
	dir                      objects.Dir
	l                        [api.Objects]api.Line
	isMarked, isThere, isOff bool
}

func lines(m *nvm.Memory) []api.Line {
	var all []api.Line
	for n := range m.Lines() {
		l, _ := m.Load(n)
		all = append(all, l)
	}
	return all
}

func bestSaid(all []api.Line) (api.Super, int, bool) {
	a, isA := superOf(all[0])
	b, isB := superOf(all[1])
	switch {
	case isA && isB && a.Gen >= b.Gen, isA && !isB:
		return a, 0, true
	case isB:
		return b, 1, true
	}
	return api.Super{}, 0, false
}

// directorySaid is the table of a root, its Dir, and which lines these name.
func directorySaid(all []api.Line, from, root int) (x radix.Table, d objects.Dir, named map[int]bool, ok bool) {
	named = map[int]bool{}
	name := func(line int) bool {
		if line < from || line >= len(all) || named[line] {
			return false
		}
		named[line] = true
		return true
	}
	if !name(root) {
		return radix.Table{}, objects.Dir{}, nil, false
	}
	d, ok = leavesOf(all[root])
	d[7] = root
	for k := 0; ok && k < 7; k++ {
		if !name(d[k]) {
			return radix.Table{}, objects.Dir{}, nil, false
		}
		part, isLeaf := entriesOf(all[d[k]], k)
		copy(x[7*k:7*k+7], part[7*k:7*k+7])
		ok = isLeaf
	}
	for _, own := range x {
		if ok && own.Kind != 0 {
			ok = name(own.Line)
		}
	}
	return x, d, named, ok
}

// recordsSaid are the records of the logs, by rising Seq, then by rising lines.
func recordsSaid(all []api.Line, cores int) []api.Record {
	var found []api.Record
	for _, l := range all[2 : 2+4*cores] {
		r, ok := recordOf(l)
		at := len(found)
		for at > 0 && found[at-1].Seq > r.Seq {
			at--
		}
		if ok {
			found = slices.Insert(found, at, r)
		}
	}
	return found
}

// bootSaid does on m what Boot does.
func bootSaid(m *nvm.Memory) told {
	if !m.On() {
		return told{e: api.ErrPower, isOff: true}
	}
	all := lines(m)
	b, slot, ok := bestSaid(all)
	if !ok {
		return told{e: api.ErrNoImage}
	}
	from := 2 + 4*b.Cores
	x, d, named, ok := directorySaid(all, from, b.Root)
	if !ok {
		return told{e: api.ErrImage}
	}
	is := told{b: b, slot: slot, next: b.Seq + 1, table: x, base: x, dir: d, frames: len(all) - from - len(named), isThere: true}
	for _, r := range recordsSaid(all, b.Cores) {
		is.next = max(is.next, r.Seq+1)
		if r.Seq <= b.Seq || x[r.Id].Kind != 1 {
			continue
		}
		if e := is.set(m, from, named, r); e != api.OK {
			return told{e: e, isOff: !m.On()}
		}
	}
	for id, own := range is.table {
		if own.Kind != 0 {
			is.l[id], _ = m.Load(own.Line)
		}
	}
	return is
}

// set does a record again: the first one of an object in the first frame that is not named.
func (a *told) set(m *nvm.Memory, from int, named map[int]bool, r api.Record) api.Errno {
	own := &a.table[r.Id].Line
	if *own != a.base[r.Id].Line {
		return m.Store(*own, r.Word, r.Value)
	}
	if a.frames == 0 {
		return api.ErrFull
	}
	to := from
	for named[to] {
		to++
	}
	l, _ := m.Load(*own)
	l[r.Word] = r.Value
	for w := range 8 {
		if e := m.Store(to, w, l[w]); e != api.OK {
			return e
		}
	}
	named[to] = true
	*own = to
	a.frames--
	return api.OK
}

// formatSaid does on m what Format does.
func formatSaid(m *nvm.Memory, cores int, l []api.Object) api.Errno {
	if !in(cores, 1, 8) || len(l) > 49 {
		return api.ErrArg
	}
	there := 0
	for _, o := range l {
		if !in(o.Kind, 0, 4) || !in(o.Version, 0, topVersion) || o.Kind == 0 && o.L != (api.Line{}) {
			return api.ErrArg
		}
		if o.Kind != 0 {
			there++
		}
	}
	from := 2 + 4*cores
	if m.Lines() < from+there+8 {
		return api.ErrFull
	}
	first := api.OK
	// Once one has erred the power is off: no later one does anything.
	does := func(e api.Errno) {
		if first == api.OK {
			first = e
		}
	}
	put := func(line int, l api.Line) {
		for w := range 8 {
			does(m.Store(line, w, l[w]))
		}
		does(m.Flush(0, line))
	}
	for line := range from {
		does(m.Store(line, 7, 0))
		does(m.Flush(0, line))
	}
	does(m.Fence(0))
	x, d := layout(cores, l)
	for id, o := range l {
		if o.Kind != 0 {
			put(x[id].Line, o.L)
		}
	}
	for k := range 7 {
		put(d[k], leafLine(x, k))
	}
	put(d[7], rootLine(d))
	does(m.Fence(0))
	does(m.Store(0, 7, 0))
	put(0, superLine(api.Super{Gen: 1, Root: d[7], Cores: cores}))
	does(m.Fence(0))
	return first
}

// layout is where Format lets things stand.
func layout(cores int, l []api.Object) (x radix.Table, d objects.Dir) {
	next := 2 + 4*cores
	for id, o := range l {
		x[id] = api.Entry{Kind: o.Kind, Version: o.Version}
		if o.Kind != 0 {
			x[id].Line = next
			next++
		}
	}
	for at := range d {
		d[at] = next + at
	}
	return x, d
}

// look is all that may be asked of a memory.
type look struct {
	has, sure, mine, others []api.Line
	// rising is what is sure, once one more of the stores of each line is, and so on.
	rising [][]api.Line
	steps  int
	on     bool
}

func lookAt(m *nvm.Memory) look {
	a := look{has: lines(m), sure: m.Sure(), steps: m.Steps(), on: m.On()}
	fenced := func(core int) []api.Line {
		c := m.Clone()
		c.Fuse(-1)
		c.Fence(core)
		return c.Sure()
	}
	a.mine, a.others = fenced(0), fenced(1)
	c := m.Clone()
	for range 24 {
		for line := range c.Lines() {
			c.Evict(line, 1)
		}
		now := c.Sure()
		if len(a.rising) > 0 && slices.Equal(a.rising[len(a.rising)-1], now) {
			break
		}
		a.rising = append(a.rising, now)
	}
	return a
}

func (a look) same(b look) bool {
	return slices.Equal(a.has, b.has) && slices.Equal(a.sure, b.sure) && slices.Equal(a.mine, b.mine) && slices.Equal(a.others, b.others) &&
		slices.EqualFunc(a.rising, b.rising, slices.Equal) && a.steps == b.steps && a.on == b.on
}

// alike fails, if two memories are not.
func alike(t *testing.T, m, twin *nvm.Memory) {
	t.Helper()
	still(t, m, lookAt(twin))
}

// still fails, if a memory is another than it was.
func still(t *testing.T, m *nvm.Memory, was look) {
	t.Helper()
	is := lookAt(m)
	if is.same(was) {
		return
	}
	t.Errorf("the memory is another: %d steps, on: %v, want %d, %v", is.steps, is.on, was.steps, was.on)
	for n := range is.has {
		if is.has[n] != was.has[n] || is.sure[n] != was.sure[n] || is.mine[n] != was.mine[n] {
			t.Errorf("the line %d has %v, of which sure %v, behind a fence %v, want %v, %v, %v", n, is.has[n], is.sure[n], is.mine[n], was.has[n], was.sure[n], was.mine[n])
			return
		}
	}
}

// tell is what Boot tells of m, and the image.
func tell(t *testing.T, m *nvm.Memory) (told, revive.Image) {
	t.Helper()
	i, e := revive.Boot(m)
	if e != api.OK {
		if i != (revive.Image{}) {
			t.Errorf("beside %v stands the image %v", e, i)
		}
		return told{e: e, isOff: !m.On()}, i
	}
	if i.Store == nil {
		t.Fatal("an image without a store")
	}
	is := told{b: i.Super, slot: i.Slot, next: i.Next, frames: i.Store.Left(), table: i.Store.Table(), isThere: true}
	is.base, is.dir = i.Store.Base()
	_, is.isMarked = i.Store.Marked()
	for id, own := range is.table {
		if own.Kind == 0 {
			continue
		}
		o, e := i.Store.Get(id)
		is.l[id] = o.L
		if e != api.OK || o.Kind != own.Kind || o.Version != own.Version {
			t.Errorf("Get(%d) = %v, %v, in the table %v", id, o, e, own)
		}
	}
	return is, i
}

// boots lets m boot, and holds what Boot tells, and what it does, against the chapter's words.
func boots(t *testing.T, m *nvm.Memory) (told, revive.Image) {
	t.Helper()
	twin := m.Clone()
	want := bootSaid(twin)
	is, i := tell(t, m)
	if is != want {
		t.Errorf("Boot tells %v, want %v", is, want)
	}
	alike(t, m, twin)
	return is, i
}

// formats does likewise of Format.
func formats(t *testing.T, m *nvm.Memory, cores int, l []api.Object) api.Errno {
	t.Helper()
	twin := m.Clone()
	want := formatSaid(twin, cores, l)
	e := revive.Format(m, cores, l)
	if e != want {
		t.Errorf("Format(m, %d, %d objects) = %v, want %v", cores, len(l), e, want)
	}
	alike(t, m, twin)
	return e
}

package isa_test

import (
	"math"
	"math/rand"
	"testing"

	"steadfast/api"
	"steadfast/isa"
)

const (
	full     = math.MaxUint64
	leastImm = -1 << 31
	mostImm  = 1<<31 - 1
	firstBad = 17 // the first Op that is none
)

// registers are what a thread's four registers have.
type registers = [4]uint64

func ins(op, a, b, c, imm int) api.Ins {
	return api.Ins{Op: op, A: a, B: b, C: c, Imm: imm}
}

// span is what a part may be: least to most, but no number of but.
type span struct {
	least, most int
	but         []int
}

func (s span) has(n int) bool {
	for _, b := range s.but {
		if n == b {
			return false
		}
	}
	return n >= s.least && n <= s.most
}

// row is a row of the chapter's table: what A, B, C and Imm of an instruction may be.
type row [4]span

// table is the chapter's table, written out a second time: by the Op.
func table() [firstBad]row {
	reg, slot, imm := span{0, 3, nil}, span{0, 7, nil}, span{leastImm, mostImm, nil}
	return [firstBad]row{
		{},
		{0: reg, 3: imm},
		{reg, reg, reg, {}},
		{reg, reg, reg, {}},
		{0: reg, 1: reg, 3: imm},
		{0: reg, 1: reg, 3: imm},
		{0: reg, 1: reg, 3: imm},
		{0: reg, 3: imm},
		{slot, slot, slot, {}},
		{0: slot, 1: slot, 3: slot},
		{slot, slot, {0, 255, nil}, {0, 15, nil}},
		{0: slot, 1: slot, 3: {1, 4, []int{3}}},
		{0: slot, 1: slot},
		{0: slot, 1: slot, 3: {0, 1, nil}},
		{0: slot, 1: slot},
		{1: slot},
		{},
	}
}

// allowed is the chapter's rule of which instruction may be.
func allowed(i api.Ins) bool {
	if i.Op < 0 || i.Op >= firstBad {
		return false
	}
	for at, n := range []int{i.A, i.B, i.C, i.Imm} {
		if !table()[i.Op][at].has(n) {
			return false
		}
	}
	return true
}

// layOut is the chapter's word of i, whether it may be or not: bit by bit, a part taken modulo its width.
func layOut(i api.Ins) uint64 {
	w, at := uint64(0), 0
	for _, part := range []struct{ value, bits int }{{i.Op, 8}, {i.A, 8}, {i.B, 8}, {i.C, 8}, {i.Imm, 32}} {
		for n := range part.bits {
			if part.value>>n&1 == 1 {
				w += 1 << (at + n)
			}
		}
		at += part.bits
	}
	return w
}

// partsOf are the parts that w names, whether such an instruction may be or not.
func partsOf(w uint64) api.Ins {
	var i api.Ins
	i.Op, w = int(w%256), w/256
	i.A, w = int(w%256), w/256
	i.B, w = int(w%256), w/256
	i.C, w = int(w%256), w/256
	i.Imm = int(w)
	if i.Imm > mostImm {
		i.Imm -= 1 << 32
	}
	return i
}

// set is i with its part at (of A, B, C and Imm) n.
func set(i api.Ins, at, n int) api.Ins {
	*[]*int{&i.A, &i.B, &i.C, &i.Imm}[at] = n
	return i
}

// inside are numbers that s has: its edges, what is next to them, and some between.
func inside(s span) []int {
	var all []int
	last := math.MinInt
	for _, n := range []int{s.least, s.least + 1, -2, -1, 0, 1, 2, 3, 100, s.most / 2, s.most - 1, s.most} {
		if s.has(n) && n != last {
			all = append(all, n)
			last = n
		}
	}
	return all
}

// outside are numbers that s has not: what is next to its edges, and far ones, those among them whose lowest bits are such a number.
func outside(s span) []int {
	var all []int
	for _, n := range append([]int{s.least - 1, s.most + 1, s.least - 2, s.most + 2, 1, -1, 2, 3, 4, 5, 8, 16, -16, 128, 255, -256, 256, 257, 259, 1 << 16, mostImm, leastImm, mostImm + 1, leastImm - 1, 1 << 32, 1<<32 + 1, -1 << 32, 1<<62 + 1, math.MinInt, math.MinInt + 1, math.MaxInt}, s.but...) {
		if !s.has(n) {
			all = append(all, n)
		}
	}
	return all
}

// goodIns are instructions that may be: of each Op each part at each edge, with the other parts at theirs.
func goodIns() []api.Ins {
	var all []api.Ins
	for op, r := range table() {
		for _, a := range inside(r[0]) {
			for _, b := range inside(r[1]) {
				for _, c := range inside(r[2]) {
					for _, imm := range inside(r[3]) {
						all = append(all, ins(op, a, b, c, imm))
					}
				}
			}
		}
	}
	return all
}

// edgeIns are instructions that may be: of each Op with all parts at their least, with all at their greatest, and with one part alone at either.
func edgeIns() []api.Ins {
	var all []api.Ins
	for op, r := range table() {
		low := ins(op, r[0].least, r[1].least, r[2].least, r[3].least)
		high := ins(op, r[0].most, r[1].most, r[2].most, r[3].most)
		all = append(all, low, high)
		for at := range r {
			all = append(all, set(low, at, r[at].most), set(high, at, r[at].least))
		}
	}
	return all
}

// farOps are numbers of no Op, those among them whose lowest bits are one.
func farOps() []int {
	return []int{-1, 17, -2, 18, -16, 31, 32, 255, 256, 257, -255, 1<<16 + 1, 1<<32 + 1, -1<<32 + 2, 1<<62 + 7, math.MinInt, math.MinInt + 1, math.MaxInt}
}

// badIns are instructions that may not be: by one part alone, at the edges of the others, and by several.
func badIns() []api.Ins {
	var all []api.Ins
	for _, i := range edgeIns() {
		for at, s := range table()[i.Op] {
			for _, n := range outside(s) {
				all = append(all, set(i, at, n))
			}
		}
		for _, op := range farOps() {
			j := i
			j.Op = op
			all = append(all, j)
		}
	}
	for op := -1; op <= firstBad; op++ {
		for _, n := range []int{-1, 256, math.MinInt, math.MaxInt} {
			all = append(all, ins(op, n, n, n, n))
		}
	}
	return append(all, ins(math.MinInt, math.MinInt, math.MinInt, math.MinInt, math.MinInt), ins(math.MaxInt, math.MaxInt, math.MaxInt, math.MaxInt, math.MaxInt))
}

// makes asks Word, and that 0 stands beside an error.
func makes(t *testing.T, i api.Ins, want uint64, e api.Errno) {
	t.Helper()
	if w, got := isa.Word(i); w != want || got != e {
		t.Errorf("Word(%v) = %x, %v, want %x, %v", i, w, got, want, e)
	}
}

// reads asks Of, and that none stands beside false.
func reads(t *testing.T, w uint64, want api.Ins, ok bool) {
	t.Helper()
	if i, got := isa.Of(w); i != want || got != ok {
		t.Errorf("Of(%x) = %v, %v, want %v, %v", w, i, got, want, ok)
	}
}

// readsByRule asks Of against the chapter's rule.
func readsByRule(t *testing.T, w uint64) {
	t.Helper()
	if i := partsOf(w); allowed(i) {
		reads(t, w, i, true)
	} else {
		reads(t, w, api.Ins{}, false)
	}
}

func alu(t *testing.T, i api.Ins, r, want registers) {
	t.Helper()
	own := r
	if got := isa.Alu(i, r); got != want || r != own {
		t.Errorf("Alu(%v, %x) = %x, want %x", i, own, got, want)
	}
}

func address(t *testing.T, i api.Ins, r registers, want uint64) {
	t.Helper()
	if got := isa.Address(i, r); got != want {
		t.Errorf("Address(%v, %x) = %x, want %x", i, r, got, want)
	}
}

func next(t *testing.T, i api.Ins, r registers, pc int, want uint64) {
	t.Helper()
	if got := isa.Next(i, r, pc); got != want {
		t.Errorf("Next(%v, %x, %d) = %x, want %x", i, r, pc, got, want)
	}
}

// The chapter's examples.

func TestExamples(t *testing.T) {
	makes(t, ins(1, 2, 0, 0, -1), 0xffffffff00000201, api.OK)
	reads(t, 17, api.Ins{}, false)
	reads(t, 0, api.Ins{}, true)
	makes(t, ins(1, 4, 0, 0, 0), 0, api.ErrArg)
	next(t, ins(7, 1, 0, 0, 9), registers{0, 5}, 3, 9)
	next(t, ins(7, 1, 0, 0, 9), registers{}, 3, 4)
}

// P13.1

func TestWordLaysThePartsOut(t *testing.T) {
	makes(t, ins(0, 0, 0, 0, 0), 0, api.OK)
	makes(t, ins(16, 0, 0, 0, 0), 0x10, api.OK)
	makes(t, ins(2, 1, 2, 3, 0), 0x03_02_01_02, api.OK)
	makes(t, ins(4, 3, 1, 0, mostImm), 0x7fffffff_00_01_03_04, api.OK)
	makes(t, ins(6, 0, 3, 0, leastImm), 0x80000000_00_03_00_06, api.OK)
	makes(t, ins(10, 7, 6, 255, 15), 0x0000000f_ff_06_07_0a, api.OK)
	for _, i := range goodIns() {
		makes(t, i, layOut(i), api.OK)
	}
	for _, i := range edgeIns() {
		makes(t, i, layOut(i), api.OK)
	}
}

func TestWordOfWhatMayNotBe(t *testing.T) {
	for _, i := range badIns() {
		makes(t, i, 0, api.ErrArg)
	}
}

// Each part of each Op, at its edges and one beyond either; what an Op has not, at 1 and -1.
func TestWordAtEachEdgeAlone(t *testing.T) {
	for op, r := range table() {
		low := ins(op, r[0].least, r[1].least, r[2].least, r[3].least)
		for at, s := range r {
			for _, n := range []int{s.least, s.most} {
				i := set(low, at, n)
				makes(t, i, layOut(i), api.OK)
			}
			for _, n := range []int{s.least - 1, s.most + 1} {
				makes(t, set(low, at, n), 0, api.ErrArg)
			}
			if s.most == 0 {
				makes(t, set(low, at, 1), 0, api.ErrArg)
				makes(t, set(low, at, -1), 0, api.ErrArg)
			}
		}
	}
}

func TestWordByImm(t *testing.T) {
	for _, x := range []struct {
		i    api.Ins
		good []int
		bad  []int
	}{
		{ins(1, 3, 0, 0, 0), []int{leastImm, -1, 0, 1, mostImm}, []int{leastImm - 1, mostImm + 1, 1 << 32, -1 << 32}},
		{ins(7, 3, 0, 0, 0), []int{leastImm, -1, 0, 1, mostImm}, []int{leastImm - 1, mostImm + 1, 1 << 32, -1 << 32}},
		{ins(9, 1, 2, 0, 0), []int{0, 1, 6, 7}, []int{-1, 8, 1 << 32}},
		{ins(10, 1, 2, 3, 0), []int{0, 1, 14, 15}, []int{-1, 16, 1 << 32}},
		{ins(11, 1, 2, 0, 0), []int{api.KindPage, api.KindNode, api.KindGate}, []int{-1, api.KindNone, api.KindThread, api.KindBank, api.KindClock, 7, 1<<32 + 1}},
		{ins(13, 1, 2, 0, 0), []int{0, 1}, []int{-1, 2, 1 << 32, 1<<32 + 1}},
	} {
		for _, n := range x.good {
			x.i.Imm = n
			makes(t, x.i, layOut(x.i), api.OK)
			reads(t, layOut(x.i), x.i, true)
		}
		for _, n := range x.bad {
			x.i.Imm = n
			makes(t, x.i, 0, api.ErrArg)
		}
	}
}

func TestWordByBadge(t *testing.T) {
	for _, c := range []int{0, 1, 254, 255} {
		makes(t, ins(10, 1, 2, c, 3), layOut(ins(10, 1, 2, c, 3)), api.OK)
	}
	for _, c := range []int{-1, 256, 511, 1 << 32} {
		makes(t, ins(10, 1, 2, c, 3), 0, api.ErrArg)
	}
}

func TestWordOfNoOp(t *testing.T) {
	for _, op := range farOps() {
		makes(t, ins(op, 0, 0, 0, 0), 0, api.ErrArg)
		makes(t, ins(op, 1, 1, 1, 1), 0, api.ErrArg)
	}
}

func TestOfReadsThePartsBack(t *testing.T) {
	for _, i := range append(goodIns(), edgeIns()...) {
		reads(t, layOut(i), i, true)
	}
}

// Words whose parts have the bits for it, but that are of no instruction.
func TestOfNoInstructionsWord(t *testing.T) {
	for op := range 256 {
		if op >= firstBad {
			reads(t, uint64(op), api.Ins{}, false)
			reads(t, uint64(op)|0x00000001_01_01_01_00, api.Ins{}, false)
		}
	}
	for _, w := range []uint64{full, 1 << 63, full - 255, 1 << 32, 1 << 8, 1 << 24, 0x10 | 1<<16, 7 | 1<<16, 11, 3<<32 | 11, 5<<32 | 11, 2<<32 | 13, 1<<63 | 10, 256} {
		reads(t, w, api.Ins{}, false)
	}
	for _, i := range edgeIns() {
		for at, s := range table()[i.Op] {
			for _, n := range outside(s) {
				readsByRule(t, layOut(set(i, at, n)))
			}
		}
	}
}

// Each word of which one bit, or a part whole, is turned is taken, or not, by the rule alone.
func TestOfEachBitTurned(t *testing.T) {
	for _, i := range edgeIns() {
		for at := range 64 {
			readsByRule(t, layOut(i)^1<<at)
		}
		for at := 0; at < 64; at += 8 {
			readsByRule(t, layOut(i)^255<<at)
		}
	}
}

// Each Op with each number in each part of 8 bits.
func TestOfEachPart(t *testing.T) {
	for op := range 20 {
		for n := range uint64(256) {
			for at := 8; at < 64; at += 8 {
				readsByRule(t, uint64(op)|n<<at)
				readsByRule(t, uint64(op)|n<<at|1<<32)
			}
		}
	}
}

// P13.2

func TestAluSets(t *testing.T) {
	r := registers{1, 2, full, 0}
	alu(t, ins(1, 0, 0, 0, 9), r, registers{9, 2, full, 0})
	alu(t, ins(1, 1, 0, 0, 0), r, registers{1, 0, full, 0})
	alu(t, ins(1, 2, 0, 0, -1), r, registers{1, 2, full, 0})
	alu(t, ins(1, 3, 0, 0, -2), r, registers{1, 2, full, full - 1})
	alu(t, ins(1, 3, 0, 0, mostImm), r, registers{1, 2, full, 0x7fffffff})
	alu(t, ins(1, 3, 0, 0, leastImm), r, registers{1, 2, full, 0xffffffff80000000})
}

func TestAluAddsAndSubtracts(t *testing.T) {
	r := registers{full, 1, 1 << 63, 0}
	alu(t, ins(2, 3, 0, 1, 0), r, registers{full, 1, 1 << 63, 0})
	alu(t, ins(2, 3, 0, 0, 0), r, registers{full, 1, 1 << 63, full - 1})
	alu(t, ins(2, 0, 2, 2, 0), r, registers{0, 1, 1 << 63, 0})
	alu(t, ins(2, 1, 1, 1, 0), r, registers{full, 2, 1 << 63, 0})
	alu(t, ins(2, 2, 2, 0, 0), r, registers{full, 1, 1<<63 - 1, 0})
	alu(t, ins(3, 3, 0, 1, 0), r, registers{full, 1, 1 << 63, full - 1})
	alu(t, ins(3, 3, 1, 0, 0), r, registers{full, 1, 1 << 63, 2})
	alu(t, ins(3, 0, 3, 1, 0), r, registers{full, 1, 1 << 63, 0})
	alu(t, ins(3, 1, 3, 2, 0), r, registers{full, 1 << 63, 1 << 63, 0})
	alu(t, ins(3, 2, 2, 2, 0), r, registers{full, 1, 0, 0})
	alu(t, ins(3, 2, 3, 0, 0), r, registers{full, 1, 1, 0})
}

// Any registers as A, B and C, the same ones among them, with what goes round and what does not.
func TestAluWithAnyRegisters(t *testing.T) {
	for _, r := range []registers{{}, {full, full, full, full}, {0, full, 1, 1 << 63}, {3, 50, 700, 9000}, {1<<63 - 1, 1 << 63, 1<<63 + 1, full - 1}} {
		for n := range 64 {
			a, b, c := n%4, n/4%4, n/16
			sum, less := r, r
			sum[a] = r[b] + r[c]
			less[a] = r[b] + ^r[c] + 1
			alu(t, ins(2, a, b, c, 0), r, sum)
			alu(t, ins(3, a, b, c, 0), r, less)
		}
	}
}

func TestAluOfOtherOps(t *testing.T) {
	for _, r := range []registers{{}, {full, 1, 2, 3}, {7, full, 0, 1 << 63}} {
		for _, i := range goodIns() {
			if i.Op == 0 || i.Op >= 4 {
				alu(t, i, r, r)
			}
		}
	}
}

func TestAddressGoesFromB(t *testing.T) {
	r := registers{0, 2, full, 1 << 63}
	for op := 4; op <= 6; op++ {
		for a := range 4 {
			address(t, ins(op, a, 0, 0, 0), r, 0)
			address(t, ins(op, a, 0, 0, 9), r, 9)
			address(t, ins(op, a, 0, 0, -1), r, full)
			address(t, ins(op, a, 1, 0, 5), r, 7)
			address(t, ins(op, a, 1, 0, -2), r, 0)
			address(t, ins(op, a, 1, 0, -3), r, full)
			address(t, ins(op, a, 2, 0, 1), r, 0)
			address(t, ins(op, a, 2, 0, 3), r, 2)
			address(t, ins(op, a, 2, 0, -1), r, full-1)
			address(t, ins(op, a, 2, 0, mostImm), r, 0x7ffffffe)
			address(t, ins(op, a, 3, 0, leastImm), r, 0x7fffffff80000000)
			address(t, ins(op, a, 3, 0, mostImm), r, 0x800000007fffffff)
			address(t, ins(op, a, 0, 0, leastImm), r, 0xffffffff80000000)
		}
	}
}

func TestAddressOfOtherOps(t *testing.T) {
	r := registers{full, 5, 6, 7}
	for _, i := range goodIns() {
		if i.Op < 4 || i.Op > 6 {
			address(t, i, r, 0)
		}
	}
}

func TestNextJumps(t *testing.T) {
	for a := range 4 {
		for _, v := range []uint64{1, 2, 1 << 32, 1 << 63, full} {
			var r registers
			r[a] = v
			none := registers{full, full, full, full}
			none[a] = 0
			for _, pc := range []int{0, 5, 1 << 40, -1, math.MinInt, math.MaxInt} {
				next(t, ins(7, a, 0, 0, 0), r, pc, 0)
				next(t, ins(7, a, 0, 0, 9), r, pc, 9)
				next(t, ins(7, a, 0, 0, mostImm), r, pc, 0x7fffffff)
				next(t, ins(7, a, 0, 0, -1), r, pc, full)
				next(t, ins(7, a, 0, 0, leastImm), r, pc, 0xffffffff80000000)
				for _, imm := range []int{leastImm, -1, 0, 9, mostImm} {
					next(t, ins(7, a, 0, 0, imm), none, pc, uint64(pc)+1)
				}
			}
		}
	}
}

func TestNextIsBehind(t *testing.T) {
	for _, i := range append(goodIns(), edgeIns()...) {
		for _, r := range []registers{{}, {full, 1, 2, 3}} {
			if i.Op == 7 && r[i.A] != 0 {
				continue
			}
			next(t, i, r, 0, 1)
			next(t, i, r, 5, 6)
			next(t, i, r, 1<<40, 1<<40+1)
			next(t, i, r, math.MaxInt, 1<<63)
			next(t, i, r, -1, 0)
			next(t, i, r, -2, full)
			next(t, i, r, math.MinInt, 1<<63+1)
		}
	}
}

// What may not be does not panic: what the Op asks is done with the registers that are there, and no other one is changed.
func TestCallsOfWhatMayNotBe(t *testing.T) {
	r := registers{full, 5, 0, 1 << 63}
	for _, i := range badIns() {
		got := isa.Alu(i, r)
		for n := range r {
			if n != i.A && got[n] != r[n] {
				t.Errorf("Alu(%v, %x) = %x", i, r, got)
			}
		}
		if i.Op < 1 || i.Op > 3 {
			alu(t, i, r, r)
		}
		if got := isa.Address(i, r); got != 0 && (i.Op < 4 || i.Op > 6) {
			t.Errorf("Address(%v, %x) = %x", i, r, got)
		}
		for _, pc := range []int{0, 7, -1, math.MinInt, math.MaxInt} {
			if i.Op == 7 && i.A >= 0 && i.A < 4 && r[i.A] != 0 {
				next(t, i, r, pc, uint64(i.Imm))
			} else {
				next(t, i, r, pc, uint64(pc)+1)
			}
		}
	}
}

// P13.3

func TestOfOfWordIsTheInstruction(t *testing.T) {
	for _, i := range append(goodIns(), edgeIns()...) {
		w, e := isa.Word(i)
		if e != api.OK {
			t.Errorf("Word(%v): %v", i, e)
		}
		reads(t, w, i, true)
	}
}

func TestAluChangesAAtMost(t *testing.T) {
	for _, r := range []registers{{}, {1, 2, 3, 4}, {full, full, full, full}, {full, 0, 1 << 63, 1}} {
		for _, i := range append(goodIns(), badIns()...) {
			got := isa.Alu(i, r)
			for n := range r {
				if n != i.A && got[n] != r[n] {
					t.Errorf("Alu(%v, %x) = %x", i, r, got)
				}
			}
		}
	}
}

// chance is a number that is at an edge of s now and then.
func chance(r *rand.Rand, s span) int {
	switch r.Intn(16) {
	case 0:
		return s.least - 1
	case 1:
		return s.most + 1
	case 2, 3:
		return s.least
	case 4, 5:
		return s.most
	}
	return s.least + r.Intn(s.most-s.least+1)
}

// All calls, of instructions and registers of chance, against the chapter's rule.
func TestCallsOfChance(t *testing.T) {
	r := rand.New(rand.NewSource(13))
	rules := table()
	for range 200000 {
		op := r.Intn(firstBad)
		s := rules[op]
		i := ins(op, chance(r, s[0]), chance(r, s[1]), chance(r, s[2]), chance(r, s[3]))
		readsByRule(t, layOut(i))
		if !allowed(i) {
			makes(t, i, 0, api.ErrArg)
			continue
		}
		makes(t, i, layOut(i), api.OK)
		var own registers
		for n := range own {
			own[n] = []uint64{0, 1, full, r.Uint64()}[r.Intn(4)]
		}
		pc := int(r.Uint64())
		want, to, then := own, uint64(0), uint64(pc)+1
		switch op {
		case 1:
			want[i.A] = uint64(i.Imm)
		case 2:
			want[i.A] = own[i.B] + own[i.C]
		case 3:
			want[i.A] = own[i.B] - own[i.C]
		case 4, 5, 6:
			to = own[i.B] + uint64(i.Imm)
		case 7:
			if own[i.A] != 0 {
				then = uint64(i.Imm)
			}
		}
		alu(t, i, own, want)
		address(t, i, own, to)
		next(t, i, own, pc, then)
	}
	for range 200000 {
		readsByRule(t, r.Uint64()>>(8*r.Intn(8)))
	}
}

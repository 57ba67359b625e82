package nvm_test

import (
	"math"
	"math/rand"
	"slices"
	"testing"

	"steadfast/api"
	"steadfast/nvm"
)

// fresh is a memory of noughts.
func fresh(t *testing.T, lines int) *nvm.Memory {
	t.Helper()
	m, e := nvm.New(lines)
	if e != api.OK || m == nil {
		t.Fatalf("New(%d) = %v, %v", lines, m, e)
	}
	return m
}

func done(t *testing.T, codes ...api.Errno) {
	t.Helper()
	for i, e := range codes {
		if e != api.OK {
			t.Fatalf("call %d answered %v", i, e)
		}
	}
}

func refused(t *testing.T, want api.Errno, codes ...api.Errno) {
	t.Helper()
	for i, e := range codes {
		if e != want {
			t.Errorf("call %d answered %v, want %v", i, e, want)
		}
	}
}

func has(t *testing.T, m *nvm.Memory, line int, want api.Line) {
	t.Helper()
	if got, e := m.Load(line); e != api.OK || got != want {
		t.Errorf("Load(%d) = %v, %v, want %v", line, got, e, want)
	}
}

func sure(t *testing.T, m *nvm.Memory, line int, want api.Line) {
	t.Helper()
	if got := m.Sure()[line]; got != want {
		t.Errorf("sure of line %d is %v, want %v", line, got, want)
	}
}

func steps(t *testing.T, m *nvm.Memory, want int) {
	t.Helper()
	if got := m.Steps(); got != want {
		t.Errorf("Steps = %d, want %d", got, want)
	}
}

func power(t *testing.T, m *nvm.Memory, want bool) {
	t.Helper()
	if got := m.On(); got != want {
		t.Errorf("On = %v, want %v", got, want)
	}
}

// loadError is what Load of a line tells; beside an error stands an empty line.
func loadError(t *testing.T, m *nvm.Memory, line int) api.Errno {
	t.Helper()
	l, e := m.Load(line)
	if e != api.OK && l != (api.Line{}) {
		t.Errorf("Load(%d) = %v beside %v", line, l, e)
	}
	return e
}

// numbered are n lines of which no two are alike.
func numbered(n int) []api.Line {
	l := make([]api.Line, n)
	for i := range l {
		for j := range l[i] {
			l[i][j] = uint64(i*api.Words+j+1) << (j * 7)
		}
	}
	return l
}

// badLines are numbers of no line of a memory of n.
func badLines(n int) []int {
	return []int{-1, n, n + 1, math.MinInt, math.MaxInt, math.MinInt32, 1 << 32}
}

func badCores() []int {
	return []int{-1, 8, 9, 64, math.MinInt, math.MaxInt, 1 << 32}
}

// P3.1

func TestNewTakesSoManyLines(t *testing.T) {
	for _, n := range []int{64, 65, 100, 1000, 1023, 1024} {
		m := fresh(t, n)
		if m.Lines() != n {
			t.Errorf("Lines = %d, want %d", m.Lines(), n)
		}
		power(t, m, true)
		steps(t, m, 0)
		if l := m.Sure(); !slices.Equal(l, make([]api.Line, n)) {
			t.Errorf("of New(%d) is sure: %v", n, l)
		}
		for i := range n {
			has(t, m, i, api.Line{})
		}
		refused(t, api.ErrArg, loadError(t, m, n))
	}
	for _, n := range []int{math.MinInt, -1, 0, 1, 63, 1025, 1026, 1 << 20, math.MaxInt} {
		if m, e := nvm.New(n); m != nil || e != api.ErrArg {
			t.Errorf("New(%d) = %v, %v, want ErrArg", n, m, e)
		}
	}
}

func TestOfTakesTheLines(t *testing.T) {
	for _, n := range []int{64, 65, 1023, 1024} {
		want := numbered(n)
		m, e := nvm.Of(numbered(n))
		if e != api.OK || m.Lines() != n {
			t.Fatalf("Of %d lines: %v", n, e)
		}
		power(t, m, true)
		steps(t, m, 0)
		for i := range n {
			has(t, m, i, want[i])
		}
		if !slices.Equal(m.Sure(), want) {
			t.Errorf("of %d lines not all are sure", n)
		}
		m.Crash([]int{5, 5, 5})
		if !slices.Equal(m.Sure(), want) {
			t.Errorf("of %d lines not all last", n)
		}
	}
	for _, l := range [][]api.Line{nil, {}, numbered(1), numbered(63), numbered(1025), numbered(4096), numbered(1024)[:63:1024]} {
		if m, e := nvm.Of(l); m != nil || e != api.ErrArg {
			t.Errorf("Of %d lines = %v, %v, want ErrArg", len(l), m, e)
		}
	}
}

func TestNoFuseBurnsAtFirst(t *testing.T) {
	of, _ := nvm.Of(numbered(64))
	for _, m := range []*nvm.Memory{fresh(t, 64), of} {
		for i := range 1000 {
			done(t, m.Store(i%64, i%8, uint64(i)), m.Flush(i%8, i%64), m.Fence(i%8))
		}
		steps(t, m, 3000)
		power(t, m, true)
	}
}

func TestStepsAreStoresFlushesAndFences(t *testing.T) {
	m := fresh(t, 64)
	done(t, m.Store(0, 0, 0))
	steps(t, m, 1)
	done(t, m.Flush(0, 9)) // of a line that has no stores, one too
	steps(t, m, 2)
	done(t, m.Fence(7))
	steps(t, m, 3)

	done(t, m.Evict(0, 1), loadError(t, m, 0))
	m.Fuse(5)
	m.Fuse(-1)
	m.Crash(nil)
	m.Clone().Store(0, 0, 1)
	refused(t, api.ErrArg, m.Store(64, 0, 0), m.Store(0, 8, 0), m.Flush(8, 0), m.Flush(0, 64), m.Fence(8))
	steps(t, m, 3)

	m.Fuse(0)
	refused(t, api.ErrPower, m.Store(0, 0, 1), m.Flush(0, 0), m.Fence(0))
	steps(t, m, 3)
	m.Crash(nil)
	done(t, m.Fence(0))
	steps(t, m, 4)
}

// each are the three calls that are steps, right ones of line 2 and core 1.
func each(m *nvm.Memory) []func() api.Errno {
	return []func() api.Errno{
		func() api.Errno { return m.Store(2, 3, 4) },
		func() api.Errno { return m.Flush(1, 2) },
		func() api.Errno { return m.Fence(1) },
	}
}

func TestFuseLetsJustSoManyStepsBeDone(t *testing.T) {
	for n := range 10 {
		for first := range 3 {
			m := fresh(t, 64)
			done(t, m.Store(2, 0, 1)) // ahead of the fuse
			calls := each(m)
			m.Fuse(n)
			for i := range n {
				power(t, m, true)
				done(t, calls[(first+i)%3]())
			}
			power(t, m, true)
			steps(t, m, n+1)
			done(t, loadError(t, m, 2))
			refused(t, api.ErrPower, calls[(first+n)%3]())
			power(t, m, false)
			refused(t, api.ErrPower, calls[0](), calls[1](), calls[2](), loadError(t, m, 2), m.Evict(2, 1))
			steps(t, m, n+1)
		}
	}
}

func TestFuseOfNoughtAndBelow(t *testing.T) {
	m := fresh(t, 64)
	m.Fuse(0)
	power(t, m, true)
	has(t, m, 0, api.Line{})
	m.Fuse(-1) // puts it out
	done(t, m.Store(0, 0, 1), m.Flush(0, 0), m.Fence(0))
	m.Fuse(2)
	done(t, m.Store(0, 0, 2))
	m.Fuse(math.MinInt)
	for range 20 {
		done(t, m.Store(0, 0, 3))
	}
	m.Fuse(1)
	done(t, m.Fence(0))
	m.Fuse(3) // another one, not one more
	done(t, m.Fence(0), m.Fence(0), m.Fence(0))
	refused(t, api.ErrPower, m.Fence(0))
	power(t, m, false)

	m = fresh(t, 64)
	m.Fuse(math.MaxInt)
	done(t, m.Store(0, 0, 1), m.Flush(0, 0), m.Fence(0))
	power(t, m, true)
}

func TestFuseDoesNotBringThePowerBack(t *testing.T) {
	for _, n := range []int{-1, 0, 1, 100, math.MaxInt, math.MinInt} {
		m := fresh(t, 64)
		m.Fuse(0)
		refused(t, api.ErrPower, m.Fence(0))
		m.Fuse(n)
		power(t, m, false)
		refused(t, api.ErrPower, m.Fence(0), m.Store(0, 0, 1), m.Flush(0, 0), m.Evict(0, 0), loadError(t, m, 0))
		steps(t, m, 0)
		m.Crash(nil) // behind it no fuse burns, though one was set while the power was off
		for range 5 {
			done(t, m.Fence(0))
		}
	}
}

func TestWrongCallsBurnNoFuse(t *testing.T) {
	m := fresh(t, 64)
	m.Fuse(1)
	for range 5 {
		refused(t, api.ErrArg, m.Store(64, 0, 0), m.Store(0, 8, 0), m.Flush(8, 0), m.Flush(0, 64), m.Fence(8), m.Evict(64, 0))
		done(t, m.Evict(0, 3), loadError(t, m, 0))
	}
	done(t, m.Fence(0))
	refused(t, api.ErrArg, m.Store(-1, 0, 0), m.Store(0, -1, 0), m.Flush(-1, 0), m.Flush(0, -1), m.Fence(-1))
	power(t, m, true)
	refused(t, api.ErrPower, m.Fence(0))
	power(t, m, false)
}

func TestTheMachineCountsOnWithThePowerOff(t *testing.T) {
	m, _ := nvm.Of(numbered(70))
	done(t, m.Store(3, 0, 99))
	m.Fuse(0)
	refused(t, api.ErrPower, m.Flush(0, 3))
	power(t, m, false)
	steps(t, m, 1)
	if m.Lines() != 70 || !slices.Equal(m.Sure(), numbered(70)) {
		t.Error("Lines or Sure tell otherwise with the power off")
	}
}

// P3.2

func TestLoadHasAllStores(t *testing.T) {
	m, _ := nvm.Of(numbered(64))
	want := numbered(64)
	for i, at := range []struct{ line, word int }{{0, 0}, {0, 7}, {63, 0}, {63, 7}, {0, 0}, {31, 4}, {63, 7}} {
		v := math.MaxUint64 - uint64(i)
		done(t, m.Store(at.line, at.word, v))
		want[at.line][at.word] = v
		for line := range 64 {
			has(t, m, line, want[line])
		}
	}
	if !slices.Equal(m.Sure(), numbered(64)) {
		t.Error("stores alone made something sure")
	}
}

func TestEveryWordOfEveryLine(t *testing.T) {
	for _, n := range []int{64, 1024} {
		m := fresh(t, n)
		for line := range n {
			for word := range api.Words {
				done(t, m.Store(line, word, uint64(line)<<32|uint64(word)|1<<63))
			}
			done(t, m.Flush(line%api.MaxCores, line))
		}
		for core := range api.MaxCores {
			done(t, m.Fence(core))
		}
		for line, l := range m.Sure() {
			for word, v := range l {
				if v != uint64(line)<<32|uint64(word)|1<<63 {
					t.Fatalf("word %d of line %d is %x", word, line, v)
				}
			}
			has(t, m, line, l)
		}
	}
}

func TestWrongArguments(t *testing.T) {
	on := fresh(t, 64)
	done(t, on.Store(63, 7, 5), on.Flush(7, 63))
	off := on.Clone()
	off.Fuse(0)
	refused(t, api.ErrPower, off.Fence(0))
	spent := on.Clone()
	spent.Fuse(0)
	for _, m := range []*nvm.Memory{on, off, spent} {
		was := m.On()
		for _, line := range badLines(64) {
			refused(t, api.ErrArg, loadError(t, m, line), m.Store(line, 0, 1), m.Store(line, 8, 1), m.Flush(0, line), m.Flush(8, line), m.Evict(line, 0), m.Evict(line, -1))
		}
		for _, word := range []int{-1, 8, 9, 64, math.MinInt, math.MaxInt, 1 << 32} {
			refused(t, api.ErrArg, m.Store(0, word, 1), m.Store(63, word, 1))
		}
		for _, core := range badCores() {
			refused(t, api.ErrArg, m.Flush(core, 0), m.Flush(core, 63), m.Fence(core))
		}
		for _, n := range []int{-1, -2, math.MinInt} {
			refused(t, api.ErrArg, m.Evict(0, n), m.Evict(63, n))
		}
		power(t, m, was)
		steps(t, m, 2)
		sure(t, m, 63, api.Line{})
	}
	has(t, on, 63, api.Line{7: 5})
	done(t, on.Store(63, 7, 6), on.Flush(7, 63), on.Fence(7), on.Evict(63, 0)) // the last ones are right
	sure(t, on, 63, api.Line{7: 6})
}

func TestTheLastLineOfAGreatMemory(t *testing.T) {
	m := fresh(t, 1024)
	done(t, m.Store(1023, 7, 1), m.Flush(7, 1023), m.Fence(7), m.Evict(1023, 1), loadError(t, m, 1023))
	refused(t, api.ErrArg, m.Store(1024, 7, 1), m.Flush(7, 1024), m.Evict(1024, 1), loadError(t, m, 1024))
	sure(t, m, 1023, api.Line{7: 1})
}

func TestWithThePowerOffNothingIsDone(t *testing.T) {
	m := fresh(t, 64)
	done(t, m.Store(3, 0, 1), m.Flush(0, 3))
	m.Fuse(0)
	refused(t, api.ErrPower, m.Store(3, 1, 2))
	refused(t, api.ErrPower, m.Store(3, 2, 3), m.Store(63, 7, 3), m.Flush(0, 3), m.Flush(7, 63), m.Fence(0), m.Fence(7), m.Evict(3, 1), m.Evict(3, 0), loadError(t, m, 3), loadError(t, m, 63))
	sure(t, m, 3, api.Line{})
	m.Crash([]int{1, 1})
	has(t, m, 3, api.Line{1})
	has(t, m, 63, api.Line{})
}

func TestAStepThatTheFuseForbidsIsNotDone(t *testing.T) {
	m := fresh(t, 64)
	done(t, m.Store(3, 0, 1), m.Flush(0, 3))
	for _, call := range []func(m *nvm.Memory) api.Errno{
		func(m *nvm.Memory) api.Errno { return m.Store(3, 1, 2) },
		func(m *nvm.Memory) api.Errno { return m.Flush(1, 3) },
		func(m *nvm.Memory) api.Errno { return m.Fence(0) },
	} {
		c := m.Clone()
		c.Fuse(0)
		refused(t, api.ErrPower, call(c))
		sure(t, c, 3, api.Line{})
		c.Crash([]int{2}) // of one store: 2 modulo 2
		has(t, c, 3, api.Line{})
	}
}

func TestFlushAloneMakesNothingSure(t *testing.T) {
	m := fresh(t, 64)
	done(t, m.Store(3, 0, 1), m.Flush(0, 3), m.Flush(1, 3))
	sure(t, m, 3, api.Line{})
	has(t, m, 3, api.Line{1})
	m.Crash(nil)
	has(t, m, 3, api.Line{})
}

func TestFenceWithoutFlushMakesNothingSure(t *testing.T) {
	m := fresh(t, 64)
	done(t, m.Store(3, 0, 1), m.Fence(0), m.Flush(0, 4), m.Fence(0))
	sure(t, m, 3, api.Line{})
	done(t, m.Flush(0, 3))
	sure(t, m, 3, api.Line{})
	done(t, m.Fence(0))
	sure(t, m, 3, api.Line{1})
	has(t, m, 3, api.Line{1})
}

func TestAnotherCoresFenceDoesNotCount(t *testing.T) {
	for core := range api.MaxCores {
		m := fresh(t, 64)
		done(t, m.Store(3, 0, 1), m.Flush(core, 3))
		for other := range api.MaxCores {
			if other != core {
				done(t, m.Fence(other))
			}
		}
		sure(t, m, 3, api.Line{})
		done(t, m.Fence(core))
		sure(t, m, 3, api.Line{1})
	}
}

func TestStoresBehindAFlushAreNotFenced(t *testing.T) {
	m := fresh(t, 64)
	done(t, m.Store(3, 0, 1), m.Flush(0, 3), m.Store(3, 1, 2), m.Store(3, 0, 3), m.Fence(0))
	sure(t, m, 3, api.Line{1})
	has(t, m, 3, api.Line{3, 2})
	done(t, m.Fence(0)) // the Flush was spent
	sure(t, m, 3, api.Line{1})
	done(t, m.Flush(0, 3), m.Fence(0))
	sure(t, m, 3, api.Line{3, 2})
}

func TestAFenceTakesAllLinesThatItsCoreFlushed(t *testing.T) {
	m := fresh(t, 64)
	for line := range 64 {
		done(t, m.Store(line, 1, uint64(line+1)))
		if line%3 != 0 {
			done(t, m.Flush(line%3, line))
		}
		done(t, m.Store(line, 1, 1000))
	}
	done(t, m.Fence(2))
	for line, l := range m.Sure() {
		var want api.Line
		if line%3 == 2 {
			want[1] = uint64(line + 1)
		}
		if l != want {
			t.Errorf("sure of line %d is %v, want %v", line, l, want)
		}
		has(t, m, line, api.Line{1: 1000})
	}
}

func TestAllStoresUpToTheLastFlushedOne(t *testing.T) {
	m := fresh(t, 64)
	// Each core flushes one store more than the one ahead of it.
	for core := range api.MaxCores {
		done(t, m.Store(3, core, uint64(core+1)), m.Flush(core, 3))
	}
	want := api.Line{}
	for word := range 4 {
		want[word] = uint64(word + 1)
	}
	done(t, m.Fence(3))
	sure(t, m, 3, want)
	done(t, m.Fence(1), m.Fence(0), m.Fence(2), m.Fence(3)) // theirs are sure by now
	sure(t, m, 3, want)
	done(t, m.Fence(4))
	want[4] = 5
	sure(t, m, 3, want)
	done(t, m.Fence(7))
	sure(t, m, 3, api.Line{1, 2, 3, 4, 5, 6, 7, 8})
	has(t, m, 3, api.Line{1, 2, 3, 4, 5, 6, 7, 8})
}

func TestAFlushAgainTakesTheLaterStores(t *testing.T) {
	m := fresh(t, 64)
	done(t, m.Store(3, 0, 1), m.Flush(0, 3), m.Store(3, 0, 2), m.Flush(0, 3), m.Store(3, 0, 3), m.Fence(0))
	sure(t, m, 3, api.Line{2})
	has(t, m, 3, api.Line{3})
}

func TestWhatWasSureCountsNoMoreAmongTheFlushed(t *testing.T) {
	// Core 1 has flushed one store; it is fenced by core 0, so core 1's Fence takes none of the later ones.
	m := fresh(t, 64)
	done(t, m.Store(3, 0, 1), m.Flush(0, 3), m.Flush(1, 3), m.Fence(0), m.Store(3, 0, 2), m.Store(3, 1, 3), m.Fence(1))
	sure(t, m, 3, api.Line{1})

	// The same when it is evicted, and when a part of what was flushed is.
	m = fresh(t, 64)
	done(t, m.Store(3, 0, 1), m.Flush(1, 3), m.Evict(3, 1), m.Store(3, 0, 2), m.Fence(1))
	sure(t, m, 3, api.Line{1})
	m = fresh(t, 64)
	done(t, m.Store(3, 0, 1), m.Store(3, 1, 2), m.Flush(1, 3), m.Store(3, 2, 3), m.Evict(3, 1), m.Fence(1))
	sure(t, m, 3, api.Line{1, 2})

	// And when it was lost, or kept, by a crash.
	for k := range 2 {
		m = fresh(t, 64)
		done(t, m.Store(3, 0, 1), m.Flush(1, 3))
		m.Crash([]int{k})
		done(t, m.Store(3, 1, 2), m.Fence(1))
		sure(t, m, 3, api.Line{uint64(k)})
	}
}

func TestAStoreOfTheSameValueIsOneToo(t *testing.T) {
	m := fresh(t, 64)
	done(t, m.Store(3, 0, 0), m.Store(3, 0, 0), m.Store(3, 0, 1), m.Evict(3, 2))
	sure(t, m, 3, api.Line{})
	done(t, m.Evict(3, 1))
	sure(t, m, 3, api.Line{1})
	steps(t, m, 3)
}

// P3.3

func TestEvictMakesTheFirstStoresSure(t *testing.T) {
	want := []api.Line{{}, {1}, {1, 2}, {3, 2}, {3, 2, 4}}
	for _, n := range []int{0, 1, 2, 3, 4, 5, 6, 1000, math.MaxInt} {
		m := fresh(t, 64)
		done(t, m.Store(3, 0, 1), m.Store(3, 1, 2), m.Store(3, 0, 3), m.Store(3, 2, 4), m.Store(4, 0, 9))
		done(t, m.Evict(3, n))
		sure(t, m, 3, want[min(n, 4)])
		has(t, m, 3, want[4])
		sure(t, m, 4, api.Line{})
		steps(t, m, 5)
		m.Crash(nil)
		has(t, m, 3, want[min(n, 4)])
	}
}

func TestEvictOneBehindTheOther(t *testing.T) {
	m := fresh(t, 64)
	for i := range 20 {
		done(t, m.Store(63, 0, uint64(i+1)))
	}
	for i := range 20 {
		done(t, m.Evict(63, 0))
		sure(t, m, 63, api.Line{uint64(i)})
		done(t, m.Evict(63, 1))
		sure(t, m, 63, api.Line{uint64(i + 1)})
	}
	done(t, m.Evict(63, 1), m.Evict(63, 0), m.Evict(0, 7)) // there are none
	has(t, m, 63, api.Line{20})
	steps(t, m, 20)
}

func TestEvictDoesNotCareForAFuse(t *testing.T) {
	m := fresh(t, 64)
	done(t, m.Store(3, 0, 1), m.Store(3, 0, 2))
	m.Fuse(0)
	done(t, m.Evict(3, 1), m.Evict(3, 0))
	power(t, m, true)
	sure(t, m, 3, api.Line{1})
	m.Fuse(1)
	done(t, m.Evict(3, 1), m.Evict(3, 5), m.Fence(0))
	sure(t, m, 3, api.Line{2})
	refused(t, api.ErrPower, m.Fence(0), m.Evict(3, 0))
	refused(t, api.ErrArg, m.Evict(3, -1), m.Evict(64, 0), m.Evict(-1, 0))
}

// P3.4

func TestExamples(t *testing.T) {
	m := fresh(t, 64)
	done(t, m.Store(3, 0, 7), m.Flush(0, 3), m.Fence(0), m.Store(3, 1, 8))
	m.Crash(nil)
	has(t, m, 3, api.Line{7})
	done(t, m.Store(3, 1, 8), m.Store(3, 2, 9))
	m.Crash([]int{1})
	has(t, m, 3, api.Line{7, 8})
	m.Fuse(0)
	refused(t, api.ErrPower, m.Store(3, 0, 1))
	power(t, m, false)
}

func TestCrashKeepsFirstStores(t *testing.T) {
	want := []api.Line{{}, {1}, {1, 2}, {3, 2}}
	for _, c := range []struct{ keep, first int }{
		{0, 0}, {1, 1}, {2, 2}, {3, 3}, {4, 0}, {5, 1}, {7, 3}, {8, 0}, {103, 3},
		{-1, 0}, {-2, 1}, {-3, 2}, {-4, 3}, {-5, 0}, {-6, 1}, {-104, 3},
		{math.MaxInt, 3}, {math.MinInt, 3}, {math.MaxInt - 1, 2}, {math.MinInt + 1, 2},
	} {
		m := fresh(t, 64)
		done(t, m.Store(3, 0, 1), m.Store(3, 1, 2), m.Store(3, 0, 3))
		m.Crash([]int{c.keep})
		has(t, m, 3, want[c.first])
		sure(t, m, 3, want[c.first])
		m.Crash([]int{3}) // the others never were
		has(t, m, 3, want[c.first])
		done(t, m.Evict(3, 5))
		sure(t, m, 3, want[c.first])
	}
}

func TestCrashCountsTheUnsureLinesAlone(t *testing.T) {
	m := fresh(t, 64)
	// Stored behind one another in falling order; of the lines 10 and 20 all is sure.
	for _, line := range []int{63, 30, 20, 15, 10, 0} {
		done(t, m.Store(line, 0, 1), m.Store(line, 1, 2))
	}
	done(t, m.Flush(4, 20), m.Fence(4), m.Evict(10, 2))
	for _, c := range []struct {
		keep []int
		want [4]int // of the lines 0, 15, 30, 63
	}{
		{nil, [4]int{}},
		{[]int{}, [4]int{}},
		{[]int{1}, [4]int{1}},
		{[]int{0, 1}, [4]int{0, 1}},
		{[]int{0, 0, 2}, [4]int{0, 0, 2}},
		{[]int{0, 0, 0, 2}, [4]int{0, 0, 0, 2}},
		{[]int{2, 1, 0, 1}, [4]int{2, 1, 0, 1}},
		{[]int{-3, 3, -1, 5}, [4]int{2, 0, 0, 2}},
		{[]int{1, 1, 1, 1, 2, 2, 2}, [4]int{1, 1, 1, 1}},
	} {
		x := m.Clone()
		x.Crash(c.keep)
		for i, line := range []int{0, 15, 30, 63} {
			has(t, x, line, []api.Line{{}, {1}, {1, 2}}[c.want[i]])
		}
		has(t, x, 10, api.Line{1, 2})
		has(t, x, 20, api.Line{1, 2})
		has(t, x, 5, api.Line{})
	}
}

func TestCrashTakesNumbersModuloEachLinesStores(t *testing.T) {
	m := fresh(t, 64)
	for line := range 64 {
		for i := range line {
			done(t, m.Store(line, 2, uint64(i+1)))
		}
	}
	keep := make([]int, 63)
	for i := range keep {
		keep[i] = 40 - i*7
	}
	m.Crash(keep)
	for line := 1; line < 64; line++ {
		k := keep[line-1]
		if k < 0 {
			k = -k - 1
		}
		has(t, m, line, api.Line{2: uint64(k % (line + 1))})
	}
}

func TestBehindACrash(t *testing.T) {
	for _, fuse := range []int{-1, 0, 1, 2, 3} {
		m := fresh(t, 64)
		m.Fuse(fuse)
		m.Store(3, 0, 1)
		m.Store(3, 1, 2)
		was := m.Steps()
		m.Crash([]int{1})
		power(t, m, true)
		steps(t, m, was)
		for i := range 5 {
			done(t, m.Store(4, 0, uint64(i)))
		}
		steps(t, m, was+5)
		has(t, m, 4, api.Line{4})
	}
}

func TestACrashWithNothingUnsure(t *testing.T) {
	m, _ := nvm.Of(numbered(64))
	m.Crash([]int{1, 2, 3})
	m.Crash(nil)
	if !slices.Equal(m.Sure(), numbered(64)) {
		t.Error("a crash of sure lines changed them")
	}
	power(t, m, true)
	steps(t, m, 0)
}

func TestListsStayTheCallers(t *testing.T) {
	l := numbered(100)
	room := l[:64:100]
	m, _ := nvm.Of(room)
	done(t, m.Store(0, 0, 1), m.Evict(0, 1), m.Store(63, 7, 2))
	if !slices.Equal(l, numbered(100)) {
		t.Error("Of changed its list, or the room behind it")
	}
	clear(l)
	has(t, m, 9, numbered(64)[9])
	sure(t, m, 9, numbered(64)[9])

	a, b := m.Sure(), m.Sure()
	clear(a)
	if b[9] != numbered(64)[9] {
		t.Error("two answers of Sure share their lines")
	}
	clear(b)
	has(t, m, 9, numbered(64)[9])
	sure(t, m, 9, numbered(64)[9])
	before := m.Sure()
	done(t, m.Store(9, 0, 5), m.Evict(9, 1))
	if before[9] != numbered(64)[9] {
		t.Error("an answer of Sure changed behind the call")
	}

	done(t, m.Store(5, 0, 8), m.Store(6, 0, 8))
	keep := []int{-5, 7, 9, 11}
	m.Crash(keep[:2])
	if !slices.Equal(keep, []int{-5, 7, 9, 11}) {
		t.Errorf("Crash changed its list: %v", keep)
	}
}

func TestCrashDoesNotKeepItsList(t *testing.T) {
	m := fresh(t, 64)
	done(t, m.Store(5, 0, 8), m.Store(6, 0, 8))
	keep := []int{1, 0}
	m.Crash(keep)
	keep[0], keep[1] = 0, 1
	has(t, m, 5, api.Line{8})
	has(t, m, 6, api.Line{})
	done(t, m.Store(7, 0, 9))
	m.Crash(nil)
	has(t, m, 7, api.Line{})
}

func TestCloneIsAlike(t *testing.T) {
	m, _ := nvm.Of(numbered(64))
	done(t, m.Store(3, 0, 1), m.Flush(2, 3), m.Store(3, 1, 2))
	m.Fuse(2)
	c := m.Clone()
	if c.Lines() != 64 || c.Steps() != 3 || !c.On() || !slices.Equal(c.Sure(), m.Sure()) {
		t.Error("a clone tells otherwise")
	}
	want := numbered(64)[3]
	want[0] = 1
	done(t, c.Fence(2), c.Fence(2))
	sure(t, c, 3, want)
	refused(t, api.ErrPower, c.Fence(2))
	off := c.Clone()
	power(t, off, false)
	steps(t, off, 5)
	want[1] = 2
	off.Crash([]int{1})
	has(t, off, 3, want)
	power(t, c, false)
}

// change does all that can be done of a memory, and ends with its power off.
func change(m *nvm.Memory) {
	m.Store(3, 2, 77)
	m.Flush(1, 3)
	m.Fence(1)
	m.Evict(4, 1)
	m.Store(4, 5, 78)
	m.Crash([]int{1, 1})
	m.Store(5, 0, 79)
	m.Flush(0, 5)
	m.Fuse(1)
	m.Fence(0)
	m.Fence(0)
}

// begun has stores, flushed and not, in lines 3, 4 and 5, and spare room behind their lists.
func begun(t *testing.T) *nvm.Memory {
	m := fresh(t, 64)
	for line := 3; line <= 5; line++ {
		for i := range 5 {
			done(t, m.Store(line, i, uint64(10*line+i)))
			if i == 2 {
				done(t, m.Flush(1, line))
			}
		}
	}
	return m
}

// looksBegun fails if m is not as begun makes it.
func looksBegun(t *testing.T, m *nvm.Memory) {
	t.Helper()
	power(t, m, true)
	steps(t, m, 18)
	for line := 3; line <= 5; line++ {
		u := uint64(10 * line)
		has(t, m, line, api.Line{u, u + 1, u + 2, u + 3, u + 4})
		sure(t, m, line, api.Line{})
	}
	done(t, m.Store(3, 7, 1), m.Fence(1))
	sure(t, m, 3, api.Line{30, 31, 32})
	m.Crash([]int{3, 1})
	has(t, m, 3, api.Line{30, 31, 32, 33, 34, 0, 0, 1})
	has(t, m, 4, api.Line{40, 41, 42, 43})
	has(t, m, 5, api.Line{50, 51, 52})
}

func TestCloneGoesItsOwnWay(t *testing.T) {
	m := begun(t)
	change(m.Clone())
	looksBegun(t, m)

	m = begun(t)
	c := m.Clone()
	change(m)
	looksBegun(t, c)
}

func TestClonesShareNoRoomBehindTheirStores(t *testing.T) {
	for n := range 20 {
		m := fresh(t, 64)
		for i := range n {
			done(t, m.Store(3, 0, uint64(i)))
		}
		a, b := m.Clone(), m.Clone()
		done(t, a.Store(3, 1, 1), b.Store(3, 1, 2), m.Store(3, 1, 3))
		done(t, a.Evict(3, n+1), b.Evict(3, n+1), m.Evict(3, n+1))
		for i, x := range []*nvm.Memory{a, b, m} {
			if got := x.Sure()[3][1]; got != uint64(i+1) {
				t.Errorf("behind %d stores memory %d has %d", n, i, got)
			}
		}
	}
}

// P3.5, and all of the others by plays of chance against the chapter's words, written out a second time.

// mark is a store with the cores that have flushed it.
type mark struct {
	word  int
	v     uint64
	cores [8]bool
}

// plain is a memory as the chapter tells it, without any haste.
type plain struct {
	sure  []api.Line
	marks [][]mark
	off   bool
	burns bool
	left  int
	steps int
}

func (p *plain) copied() *plain {
	c := *p
	c.sure = slices.Clone(p.sure)
	c.marks = make([][]mark, len(p.marks))
	for i := range p.marks {
		c.marks[i] = slices.Clone(p.marks[i])
	}
	return &c
}

func (p *plain) has(line int) api.Line {
	l := p.sure[line]
	for _, s := range p.marks[line] {
		l[s.word] = s.v
	}
	return l
}

func (p *plain) settle(line, n int) {
	for range n {
		s := p.marks[line][0]
		p.sure[line][s.word] = s.v
		p.marks[line] = p.marks[line][1:]
	}
}

// mayStep tells whether a step is done, and counts it.
func (p *plain) mayStep() bool {
	if p.burns && p.left == 0 {
		p.off = true
	}
	if p.off {
		return false
	}
	p.steps++
	p.left--
	return true
}

func (p *plain) fence(core int) {
	for line := range p.marks {
		last := 0
		for i, s := range p.marks[line] {
			if s.cores[core] {
				last = i + 1
			}
		}
		p.settle(line, last)
	}
}

func (p *plain) crash(keep []int) {
	i := 0
	for line := range p.marks {
		n := len(p.marks[line])
		if n == 0 {
			continue
		}
		k := 0
		if i < len(keep) && keep[i] >= 0 {
			k = keep[i] % (n + 1)
		} else if i < len(keep) {
			k = -(keep[i] + 1) % (n + 1)
		}
		p.settle(line, k)
		p.marks[line] = nil
		i++
	}
	p.off, p.burns = false, false
}

// play does one thing by chance to both, and tells what each answered.
func play(r *rand.Rand, m *nvm.Memory, p *plain) (got, want api.Errno) {
	n := len(p.sure)
	// Mostly a few lines and cores, so that their stores and flushes meet; now and then none that is.
	line, core, word := r.Intn(4)*(n-1)/3, r.Intn(3), r.Intn(8)
	wrong := func(rate int, one *int, bad ...int) bool {
		if r.Intn(rate) != 0 {
			return false
		}
		*one = bad[r.Intn(len(bad))]
		return true
	}
	power := func(do bool, then func()) api.Errno {
		if !do {
			return api.ErrPower
		}
		then()
		return api.OK
	}
	switch r.Intn(12) {
	case 0, 1, 2, 3:
		bad := wrong(40, &line, badLines(n)...)
		bad = wrong(40, &word, -1, 8, math.MaxInt) || bad
		v := r.Uint64()
		got = m.Store(line, word, v)
		if bad {
			return got, api.ErrArg
		}
		return got, power(p.mayStep(), func() { p.marks[line] = append(p.marks[line], mark{word: word, v: v}) })
	case 4, 5, 6:
		bad := wrong(40, &line, badLines(n)...)
		bad = wrong(40, &core, badCores()...) || bad
		got = m.Flush(core, line)
		if bad {
			return got, api.ErrArg
		}
		return got, power(p.mayStep(), func() {
			for i := range p.marks[line] {
				p.marks[line][i].cores[core] = true
			}
		})
	case 7:
		bad := wrong(20, &core, badCores()...)
		got = m.Fence(core)
		if bad {
			return got, api.ErrArg
		}
		return got, power(p.mayStep(), func() { p.fence(core) })
	case 8, 9:
		some := r.Intn(4)
		bad := wrong(20, &line, badLines(n)...)
		bad = wrong(20, &some, -1, math.MinInt) || bad
		got = m.Evict(line, some)
		if bad {
			return got, api.ErrArg
		}
		return got, power(!p.off, func() { p.settle(line, min(some, len(p.marks[line]))) })
	case 10:
		if r.Intn(4) == 0 {
			fuse := r.Intn(30) - 10
			m.Fuse(fuse)
			p.burns, p.left = fuse >= 0, fuse
		}
	case 11:
		if p.off || r.Intn(8) == 0 {
			keep := someKeep(r)
			m.Crash(keep)
			p.crash(keep)
		}
	}
	return api.OK, api.OK
}

func someKeep(r *rand.Rand) []int {
	keep := make([]int, r.Intn(5))
	for i := range keep {
		keep[i] = r.Intn(20) - 10
	}
	return keep
}

// alike fails if m does not tell what p does.
func alike(t *testing.T, m *nvm.Memory, p *plain) {
	t.Helper()
	if m.Lines() != len(p.sure) || m.On() == p.off || m.Steps() != p.steps || !slices.Equal(m.Sure(), p.sure) {
		t.Fatalf("Lines %d, On %v, Steps %d, or what is sure, is not as told", m.Lines(), m.On(), m.Steps())
	}
	for line := range p.sure {
		if p.off {
			refused(t, api.ErrPower, loadError(t, m, line))
		} else if l, e := m.Load(line); e != api.OK || l != p.has(line) {
			t.Fatalf("Load(%d) = %v, %v, want %v", line, l, e, p.has(line))
		}
	}
}

// begins are a memory of n lines and its plain likeness.
func begins(t *testing.T, n int) (*nvm.Memory, *plain) {
	t.Helper()
	m, e := nvm.Of(numbered(n))
	if e != api.OK {
		t.Fatal(e)
	}
	return m, &plain{sure: numbered(n), marks: make([][]mark, n)}
}

func TestPlaysByChance(t *testing.T) {
	for seed := range int64(60) {
		r := rand.New(rand.NewSource(seed))
		m, p := begins(t, 64+int(seed)%5)
		for range 600 {
			if got, want := play(r, m, p); got != want {
				t.Fatalf("seed %d: answered %v, want %v", seed, got, want)
			}
			alike(t, m, p)
			if r.Intn(50) == 0 { // go on with a clone; the one left behind is played with, too
				old := m
				m = old.Clone()
				for range 10 {
					play(r, old, p.copied())
				}
				alike(t, m, p)
			}
		}
	}
}

func TestWhatIsSureIsThereBehindAnyCrash(t *testing.T) {
	for seed := range int64(200) {
		r := rand.New(rand.NewSource(seed))
		m, p := begins(t, 64)
		for range r.Intn(200) {
			play(r, m, p)
		}
		core := r.Intn(3)
		fenced := m.Fence(core) == api.OK
		if p.mayStep() {
			p.fence(core)
		}
		before := m.Sure()
		m.Crash(someKeep(r))
		for line := range before {
			l, e := m.Load(line)
			if e != api.OK || !someFirstStores(p, line, l) {
				t.Fatalf("seed %d: line %d is %v, %v: no first stores made that", seed, line, l, e)
			}
			if len(p.marks[line]) == 0 && l != before[line] {
				t.Fatalf("seed %d, fenced %v: line %d was sure, and is %v", seed, fenced, line, l)
			}
		}
	}
}

// someFirstStores tells whether l is what is sure of the line with the first stores done, as many as may be.
func someFirstStores(p *plain, line int, l api.Line) bool {
	x := p.sure[line]
	if x == l {
		return true
	}
	for _, s := range p.marks[line] {
		x[s.word] = s.v
		if x == l {
			return true
		}
	}
	return false
}

func TestFencedStoresLastWhateverIsKept(t *testing.T) {
	m := fresh(t, 64)
	for line := range 64 {
		done(t, m.Store(line, 0, uint64(line+1)), m.Flush(line%8, line))
	}
	for core := range api.MaxCores {
		done(t, m.Fence(core))
	}
	for line := range 64 {
		done(t, m.Store(line, 1, 5), m.Store(line, 1, 6))
	}
	for k := -4; k < 5; k++ {
		c := m.Clone()
		keep := make([]int, 64)
		for i := range keep {
			keep[i] = k + i
		}
		c.Crash(keep)
		for line := range 64 {
			n := keep[line]
			if n < 0 {
				n = -n - 1
			}
			has(t, c, line, api.Line{uint64(line + 1), []uint64{0, 5, 6}[n%3]})
		}
	}
}

// R1

func TestManyStoresOfOneLine(t *testing.T) {
	m := fresh(t, 64)
	const n = 200000
	for i := range n {
		done(t, m.Store(3, i%8, uint64(i)))
		if l, e := m.Load(3); e != api.OK || l[i%8] != uint64(i) {
			t.Fatal(i, l, e)
		}
	}
	for range n - 1 {
		done(t, m.Evict(3, 1))
	}
	m.Crash([]int{1})
	has(t, m, 3, api.Line{n - 8, n - 7, n - 6, n - 5, n - 4, n - 3, n - 2, n - 1})
}

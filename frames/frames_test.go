package frames_test

import (
	"math"
	"math/rand"
	"testing"

	"steadfast/api"
	"steadfast/frames"
)

func fresh(t *testing.T, from, lines int) *frames.Frames {
	t.Helper()
	f, e := frames.New(from, lines)
	if e != api.OK || f == nil {
		t.Fatalf("New(%d, %d) = %v, %v", from, lines, f, e)
	}
	return f
}

func answers(t *testing.T, want api.Errno, codes ...api.Errno) {
	t.Helper()
	for i, e := range codes {
		if e != want {
			t.Errorf("call %d answered %v, want %v", i, e, want)
		}
	}
}

func allocs(t *testing.T, f *frames.Frames, lines ...int) {
	t.Helper()
	for _, want := range lines {
		if got, e := f.Alloc(); got != want || e != api.OK {
			t.Errorf("Alloc = %d, %v, want %d", got, e, want)
		}
	}
}

// full asks twice, as an Alloc that is refused must not make room.
func full(t *testing.T, f *frames.Frames) {
	t.Helper()
	for range 2 {
		if got, e := f.Alloc(); got != 0 || e != api.ErrFull {
			t.Errorf("Alloc = %d, %v, want 0, ErrFull", got, e)
		}
	}
	left(t, f, 0)
}

func left(t *testing.T, f *frames.Frames, want int) {
	t.Helper()
	if got := f.Left(); got != want {
		t.Errorf("Left = %d, want %d", got, want)
	}
}

func state(t *testing.T, f *frames.Frames, line, want int) {
	t.Helper()
	if got := f.State(line); got != want {
		t.Errorf("State(%d) = %d, want %d", line, got, want)
	}
}

// noFrames are numbers of no frame of those from from on, below lines.
func noFrames(from, lines int) []int {
	return []int{
		from - 1, from - 2, lines, lines + 1, -1, -2, -from - 1, -lines - 1, 1024, 1025, 4096,
		lines + 1<<10, lines + 1<<32, from + 1<<32, math.MinInt32, math.MinInt, math.MaxInt,
	}
}

// play is the chapter's words a second time, beside frames that are to do the same.
type play struct {
	f           *frames.Frames
	from, lines int
	at          map[int]int
}

func begin(t *testing.T, from, lines int) *play {
	t.Helper()
	p := &play{f: fresh(t, from, lines), from: from, lines: lines, at: map[int]int{}}
	for line := from; line < lines; line++ {
		p.at[line] = 0
	}
	return p
}

func (p *play) clone() *play {
	c := &play{f: p.f.Clone(), from: p.from, lines: p.lines, at: map[int]int{}}
	for line, s := range p.at {
		c.at[line] = s
	}
	return c
}

// turned is what Take, Free and Later come to.
func (p *play) turned(line, was, is int) api.Errno {
	s, frame := p.at[line]
	if !frame {
		return api.ErrArg
	}
	if s != was {
		return api.ErrState
	}
	p.at[line] = is
	return api.OK
}

func (p *play) take(t *testing.T, line int) {
	t.Helper()
	if got, want := p.f.Take(line), p.turned(line, 0, 1); got != want {
		t.Errorf("Take(%d) of %v = %v, want %v", line, p.at, got, want)
	}
}

func (p *play) free(t *testing.T, line int) {
	t.Helper()
	if got, want := p.f.Free(line), p.turned(line, 1, 0); got != want {
		t.Errorf("Free(%d) of %v = %v, want %v", line, p.at, got, want)
	}
}

func (p *play) later(t *testing.T, line int) {
	t.Helper()
	if got, want := p.f.Later(line), p.turned(line, 1, 2); got != want {
		t.Errorf("Later(%d) of %v = %v, want %v", line, p.at, got, want)
	}
}

func (p *play) alloc(t *testing.T) {
	t.Helper()
	want, code := 0, api.ErrFull
	for line := p.lines - 1; line >= p.from; line-- {
		if p.at[line] == 0 {
			want, code = line, api.OK
		}
	}
	if code == api.OK {
		p.at[want] = 1
	}
	if got, e := p.f.Alloc(); got != want || e != code {
		t.Errorf("Alloc of %v = %d, %v, want %d, %v", p.at, got, e, want, code)
	}
}

func (p *play) settle() {
	p.f.Settle()
	for line, s := range p.at {
		if s == 2 {
			p.at[line] = 0
		}
	}
}

// same looks at all lines there may be, and at some behind both ends.
func (p *play) same(t *testing.T) {
	t.Helper()
	n := 0
	for line := -3; line < api.MaxLines+3; line++ {
		want, frame := p.at[line]
		if !frame {
			want = -1
		}
		if want == 0 {
			n++
		}
		if got := p.f.State(line); got != want {
			t.Fatalf("State(%d) = %d, want %d", line, got, want)
		}
	}
	left(t, p.f, n)
}

// calls are all calls that change something, of line where they take one.
func calls(t *testing.T, line int) []func(*play) {
	return []func(*play){
		func(p *play) { p.take(t, line) },
		func(p *play) { p.free(t, line) },
		func(p *play) { p.later(t, line) },
		func(p *play) { p.alloc(t) },
		func(p *play) { p.settle() },
	}
}

// The chapter's examples.

func TestExamples(t *testing.T) {
	f := fresh(t, 2, 5)
	allocs(t, f, 2, 3)
	answers(t, api.OK, f.Later(2))
	allocs(t, f, 4)
	full(t, f)
	f.Settle()
	allocs(t, f, 2)
	answers(t, api.ErrArg, f.Free(9))
}

// P4.1

func TestNewHasAllFree(t *testing.T) {
	for _, x := range [][2]int{
		{0, 0}, {0, 1}, {1, 1}, {1, 2}, {0, 64}, {2, 5}, {5, 5}, {33, 64}, {64, 64}, {0, 1023}, {1022, 1023},
		{0, 1024}, {1, 1024}, {1022, 1024}, {1023, 1024}, {1024, 1024},
	} {
		p := begin(t, x[0], x[1])
		left(t, p.f, x[1]-x[0])
		p.same(t)
	}
}

func TestNewRefuses(t *testing.T) {
	for _, x := range [][2]int{
		{-1, 0}, {-1, 5}, {-1, 1024}, {-1, -1}, {-2, -1}, {0, -1}, {-5, 1025}, {math.MinInt, 5}, {math.MinInt, math.MinInt}, {0, math.MinInt},
		{1, 0}, {6, 5}, {1024, 1023}, {1025, 1024}, {math.MaxInt, 5}, {math.MaxInt, 1024}, {math.MaxInt, -2},
		{0, 1025}, {1, 1025}, {1024, 1025}, {1025, 1025}, {0, 1026}, {0, 2048}, {5, 1<<32 + 64}, {0, math.MaxInt}, {math.MaxInt, math.MaxInt}, {math.MinInt, math.MaxInt},
	} {
		if f, e := frames.New(x[0], x[1]); f != nil || e != api.ErrArg {
			t.Errorf("New(%d, %d) = %v, %v, want ErrArg", x[0], x[1], f, e)
		}
	}
}

func TestStateAtTheEnds(t *testing.T) {
	for _, x := range [][2]int{{2, 5}, {0, 1}, {0, 1024}, {1023, 1024}, {40, 64}} {
		from, lines := x[0], x[1]
		f := fresh(t, from, lines)
		state(t, f, from-1, -1)
		state(t, f, from, 0)
		state(t, f, lines-1, 0)
		state(t, f, lines, -1)
	}
}

func TestStateOfEachKind(t *testing.T) {
	f := fresh(t, 3, 9)
	state(t, f, 5, 0)
	answers(t, api.OK, f.Take(5))
	state(t, f, 5, 1)
	answers(t, api.OK, f.Later(5))
	state(t, f, 5, 2)
	f.Settle()
	state(t, f, 5, 0)
	answers(t, api.OK, f.Take(5), f.Free(5))
	state(t, f, 5, 0)
	for _, line := range []int{3, 4, 6, 7, 8} {
		state(t, f, line, 0)
	}
}

func TestNoFrameAtAll(t *testing.T) {
	for _, x := range [][2]int{{0, 0}, {1, 1}, {7, 7}, {1024, 1024}} {
		f := fresh(t, x[0], x[1])
		full(t, f)
		for line := -2; line < 1030; line++ {
			state(t, f, line, -1)
			answers(t, api.ErrArg, f.Take(line), f.Free(line), f.Later(line))
		}
		f.Settle()
		full(t, f)
		full(t, f.Clone())
	}
}

func TestLeftCountsTheFreeOnes(t *testing.T) {
	f := fresh(t, 10, 20)
	left(t, f, 10)
	allocs(t, f, 10)
	answers(t, api.OK, f.Take(19))
	left(t, f, 8)
	answers(t, api.OK, f.Later(10))
	left(t, f, 8)
	answers(t, api.OK, f.Free(19))
	left(t, f, 9)
	f.Settle()
	left(t, f, 10)
}

func TestAskingChangesNothing(t *testing.T) {
	p := begin(t, 2, 8)
	p.take(t, 2)
	p.take(t, 4)
	p.later(t, 4)
	for range 3 {
		p.same(t)
		p.f.Clone()
	}
	allocs(t, p.f, 3)
}

// P4.2

func TestAllocTellsTheFirstFreeOne(t *testing.T) {
	f := fresh(t, 5, 10)
	allocs(t, f, 5)
	answers(t, api.OK, f.Take(6), f.Take(8))
	allocs(t, f, 7, 9)
	full(t, f)
	answers(t, api.OK, f.Free(9), f.Free(6))
	allocs(t, f, 6, 9)
	full(t, f)
}

func TestAllocTillFull(t *testing.T) {
	for _, x := range [][2]int{{0, 1}, {0, 64}, {33, 64}, {0, 1024}, {1023, 1024}, {1000, 1024}} {
		from, lines := x[0], x[1]
		f := fresh(t, from, lines)
		for line := from; line < lines; line++ {
			left(t, f, lines-line)
			allocs(t, f, line)
			state(t, f, line, 1)
		}
		full(t, f)
		for line := from; line < lines; line++ {
			state(t, f, line, 1)
		}
	}
}

func TestAllocBehindFreeLaterAndSettle(t *testing.T) {
	for _, line := range []int{2, 3, 4} {
		f := fresh(t, 2, 5)
		allocs(t, f, 2, 3, 4)
		full(t, f)

		answers(t, api.OK, f.Free(line))
		left(t, f, 1)
		allocs(t, f, line)
		full(t, f)

		answers(t, api.OK, f.Later(line))
		full(t, f)
		state(t, f, line, 2)

		f.Settle()
		left(t, f, 1)
		allocs(t, f, line)
		full(t, f)
	}
}

func TestSettleFreesAllThatAreToBeFreeLater(t *testing.T) {
	for _, x := range [][2]int{{0, 1024}, {1, 64}, {60, 64}, {0, 1}} {
		p := begin(t, x[0], x[1])
		for line := p.from; line < p.lines; line++ {
			p.alloc(t)
			if line%3 != 1 {
				p.later(t, line)
			}
		}
		full(t, p.f)
		p.settle()
		p.same(t)
		p.settle() // once more, with none left
		p.same(t)
	}
}

func TestSettleWithNoneToBeFreeLater(t *testing.T) {
	p := begin(t, 2, 6)
	p.settle()
	p.same(t)
	p.take(t, 2)
	p.take(t, 5)
	p.settle()
	p.same(t)
	for range 2 {
		p.alloc(t)
	}
	p.settle()
	full(t, p.f)
	p.same(t)
}

func TestSettleIsForThoseSoFar(t *testing.T) {
	f := fresh(t, 0, 4)
	allocs(t, f, 0, 1)
	answers(t, api.OK, f.Later(0))
	f.Settle()
	answers(t, api.OK, f.Later(1))
	state(t, f, 0, 0)
	state(t, f, 1, 2)
	allocs(t, f, 0)
	f.Settle()
	state(t, f, 0, 1)
	state(t, f, 1, 0)
}

func TestCallsOfNoFrame(t *testing.T) {
	for _, x := range [][2]int{{2, 5}, {0, 1}, {0, 64}, {30, 64}, {0, 1024}, {1000, 1024}, {1023, 1024}} {
		p := begin(t, x[0], x[1])
		p.alloc(t)
		p.take(t, p.lines-1)
		p.later(t, p.lines-1)
		for _, line := range noFrames(x[0], x[1]) {
			if line >= p.from && line < p.lines {
				continue
			}
			state(t, p.f, line, -1)
			answers(t, api.ErrArg, p.f.Take(line), p.f.Free(line), p.f.Later(line))
		}
		p.same(t)
	}
}

func TestCallsInEachState(t *testing.T) {
	for _, line := range []int{2, 3, 4} {
		f := fresh(t, 2, 5)
		answers(t, api.ErrState, f.Free(line), f.Later(line))
		state(t, f, line, 0)
		answers(t, api.OK, f.Take(line))
		answers(t, api.ErrState, f.Take(line))
		state(t, f, line, 1)
		answers(t, api.OK, f.Later(line))
		answers(t, api.ErrState, f.Take(line), f.Free(line), f.Later(line))
		state(t, f, line, 2)
		left(t, f, 2)
		f.Settle()
		answers(t, api.ErrState, f.Free(line), f.Later(line))
		answers(t, api.OK, f.Take(line), f.Free(line))
		answers(t, api.ErrState, f.Free(line), f.Later(line))
		left(t, f, 3)
	}
}

// Every way in which up to four frames may stand, and every call behind it.
func TestEveryCallInEveryState(t *testing.T) {
	for n := range 5 {
		ways := 1
		for range n {
			ways *= 3
		}
		for way := range ways {
			for line := 1; line <= n+3; line++ {
				for i := range 5 {
					p := begin(t, 2, 2+n)
					p.stand(t, way)
					calls(t, line)[i](p)
					p.same(t)
				}
			}
		}
	}
}

// stand brings each frame into the state that is way's next digit of three.
func (p *play) stand(t *testing.T, way int) {
	t.Helper()
	for line := p.from; line < p.lines; line++ {
		if way%3 > 0 {
			p.take(t, line)
		}
		if way%3 > 1 {
			p.later(t, line)
		}
		way /= 3
	}
}

func TestCloneGoesItsOwnWay(t *testing.T) {
	for way := range 27 {
		for i := range 5 {
			for j := range 5 {
				for line := 2; line < 5; line++ {
					p := begin(t, 2, 5)
					p.stand(t, way)
					c := p.clone()
					c.same(t)
					calls(t, line)[i](p)
					c.same(t)
					calls(t, line)[j](c)
					p.same(t)
					c.same(t)
				}
			}
		}
	}
}

func TestCloneOfACloneAndOfMany(t *testing.T) {
	p := begin(t, 1000, 1024)
	p.take(t, 1010)
	p.later(t, 1010)
	c := p.clone()
	d := c.clone()
	c.settle()
	for range 30 {
		d.alloc(t)
	}
	p.take(t, 1000)
	for _, one := range []*play{p, c, d} {
		one.same(t)
	}
}

// P4.3

func TestNoLineIsToldTwice(t *testing.T) {
	r := rand.New(rand.NewSource(43))
	f := fresh(t, 4, 40)
	told := map[int]bool{}
	for range 20000 {
		line := r.Intn(40)
		switch r.Intn(8) {
		case 0:
			if f.Free(line) == api.OK {
				delete(told, line)
			}
		case 1:
			f.Later(line)
		case 2:
			if r.Intn(6) == 0 {
				freed(f, told)
			}
		default:
			if got, e := f.Alloc(); e == api.OK && told[got] {
				t.Fatalf("Alloc told %d twice", got)
			} else if e == api.OK {
				told[got] = true
			}
		}
	}
}

// freed settles, and forgets the lines that are free by that alone.
func freed(f *frames.Frames, told map[int]bool) {
	for line := range told {
		if f.State(line) == 2 {
			delete(told, line)
		}
	}
	f.Settle()
}

func TestLeftNeverTellsOfOneToBeFreeLater(t *testing.T) {
	f := fresh(t, 0, 100)
	for range 100 {
		f.Alloc()
	}
	for line := range 100 {
		answers(t, api.OK, f.Later(line))
		full(t, f)
	}
	f.Settle()
	left(t, f, 100)
}

func TestPlaysOfChance(t *testing.T) {
	r := rand.New(rand.NewSource(4))
	for range 60 {
		lines := r.Intn(api.MaxLines + 1)
		if r.Intn(2) == 0 {
			lines = r.Intn(12)
		}
		p := begin(t, r.Intn(lines+1), lines)
		for step := range 300 {
			line := p.from - 2 + r.Intn(lines-p.from+4)
			if r.Intn(40) == 0 {
				p.settle()
			} else {
				calls(t, line)[r.Intn(4)](p)
			}
			if step%20 == 0 {
				p.same(t)
			}
			if r.Intn(60) == 0 {
				p = p.clone()
			}
		}
		p.same(t)
	}
}

package caps_test

import (
	"math"
	"math/rand"
	"testing"

	"steadfast/api"
	"steadfast/caps"
)

const (
	full       = math.MaxUint64
	topVersion = 1<<24 - 1
)

func capOf(kind, rights, id, version, badge int) api.Cap {
	return api.Cap{Kind: kind, Rights: rights, Id: id, Version: version, Badge: badge}
}

// layOut is the chapter's word of c, whether it may be or not: bit by bit, a part taken modulo its width.
func layOut(c api.Cap) uint64 {
	w, at := uint64(0), 0
	for _, part := range []struct{ value, bits int }{{c.Kind, 4}, {c.Rights, 4}, {c.Id, 16}, {c.Version, 24}, {c.Badge, 16}} {
		for i := 0; i < part.bits; i++ {
			if part.value>>i&1 == 1 {
				w += 1 << (at + i)
			}
		}
		at += part.bits
	}
	return w
}

// partsOf are the parts that the bits of w name, whether such a capability may be or not.
func partsOf(w uint64) api.Cap {
	var c api.Cap
	c.Kind, w = int(w%16), w/16
	c.Rights, w = int(w%16), w/16
	c.Id, w = int(w%65536), w/65536
	c.Version, w = int(w%(1<<24)), w>>24
	c.Badge = int(w)
	return c
}

// allowed is the chapter's rule of which capability may be.
func allowed(c api.Cap) bool {
	in := func(n, least, most int) bool { return least <= n && n <= most }
	if !in(c.Kind, 1, 6) || !in(c.Rights, 0, 15) || !in(c.Id, 0, 48) || !in(c.Version, 0, topVersion) || !in(c.Badge, 0, 65535) {
		return false
	}
	return c.Kind < 5 || c.Id == 0 && c.Version == 0
}

// goodCaps are capabilities that may be, each edge among them.
func goodCaps() []api.Cap {
	all := []api.Cap{capOf(1, 3, 5, 7, 9), capOf(2, 7, 3, 1, 0), capOf(3, 10, 31, 0xabcdef, 0x1234)}
	for _, rights := range []int{0, 1, 2, 4, 5, 8, 10, 14, 15} {
		for _, badge := range []int{0, 1, 255, 256, 65534, 65535} {
			for _, id := range []int{0, 1, 47, 48} {
				for _, version := range []int{0, 1, 1 << 16, topVersion - 1, topVersion} {
					for kind := 1; kind <= 4; kind++ {
						all = append(all, capOf(kind, rights, id, version, badge))
					}
				}
			}
			all = append(all, capOf(5, rights, 0, 0, badge), capOf(6, rights, 0, 0, badge))
		}
	}
	return all
}

// outOf are numbers that are not least to most, those among them whose lowest bits are such a number.
func outOf(least, most int) []int {
	var all []int
	for _, n := range []int{least - 1, most + 1, least - 2, most + 2, -most - 1, 1 << 4, 1<<4 + 1, 1 << 16, 1<<16 + 3, 1 << 24, 1<<24 + 1, 1 << 32, 1<<32 + 1, 1<<48 + 1, -1 << 32, 1 << 62, math.MinInt, math.MinInt + 1, math.MaxInt} {
		if n < least || n > most {
			all = append(all, n)
		}
	}
	return all
}

// badCaps are capabilities that may not be: by one part alone, at each edge of the others, and by several.
func badCaps() []api.Cap {
	all := []api.Cap{{}, capOf(0, 15, 48, topVersion, 65535), capOf(-1, -1, -1, -1, -1), capOf(7, 16, 49, 1<<24, 65536), capOf(math.MinInt, math.MaxInt, math.MinInt, math.MaxInt, math.MinInt)}
	for _, c := range []api.Cap{capOf(1, 0, 0, 0, 0), capOf(4, 15, 48, topVersion, 65535), capOf(2, 5, 3, 7, 9), capOf(5, 15, 0, 0, 65535), capOf(6, 0, 0, 0, 0)} {
		for _, n := range outOf(1, 6) {
			all = append(all, capOf(n, c.Rights, c.Id, c.Version, c.Badge))
		}
		for _, n := range outOf(0, 15) {
			all = append(all, capOf(c.Kind, n, c.Id, c.Version, c.Badge))
		}
		for _, n := range append(outOf(0, 48), 63, 64, 65535) {
			all = append(all, capOf(c.Kind, c.Rights, n, c.Version, c.Badge))
		}
		for _, n := range outOf(0, topVersion) {
			all = append(all, capOf(c.Kind, c.Rights, c.Id, n, c.Badge))
		}
		for _, n := range outOf(0, 65535) {
			all = append(all, capOf(c.Kind, c.Rights, c.Id, c.Version, n))
		}
	}
	for _, kind := range []int{5, 6} {
		for _, rights := range []int{0, 15} {
			for _, n := range []int{1, 2, 47, 48} {
				all = append(all, capOf(kind, rights, n, 0, 0), capOf(kind, rights, 0, n, 0), capOf(kind, rights, n, n, 9))
			}
			all = append(all, capOf(kind, rights, 0, topVersion, 65535), capOf(kind, rights, 48, topVersion, 65535))
		}
	}
	return all
}

// badWords are words of no capability: each is so by one part at least.
func badWords() []uint64 {
	all := []uint64{0, full, 7, 8, 15, 1 << 63, full - 15, full - 255, 49<<8 | 1, 0xffff<<8 | 4, 1<<8 | 5, 1<<24 | 6}
	for _, rights := range []int{0, 3, 15} {
		for _, badge := range []int{0, 9, 65535} {
			for _, kind := range []int{0, 7, 8, 9, 14, 15} {
				all = append(all, layOut(capOf(kind, rights, 0, 0, badge)), layOut(capOf(kind, rights, 48, topVersion, badge)))
			}
			for _, id := range []int{49, 50, 63, 64, 128, 1 << 8, 1 << 15, 65535} {
				for kind := 1; kind <= 6; kind++ {
					all = append(all, layOut(capOf(kind, rights, id, 0, badge)))
				}
			}
			for _, kind := range []int{5, 6} {
				for at := 0; at < 16; at++ {
					all = append(all, layOut(capOf(kind, rights, 1<<at, 0, badge)))
				}
				for at := 0; at < 24; at++ {
					all = append(all, layOut(capOf(kind, rights, 0, 1<<at, badge)))
				}
			}
		}
	}
	return all
}

// someWords are words of capabilities that differ in one part, or in several, with a few of none.
func someWords() []uint64 {
	all := []uint64{0, full, 7, 49<<8 | 1, 1<<8 | 5}
	for _, rights := range []int{0, 1, 2, 3, 6, 8, 15} {
		for _, badge := range []int{0, 9, 65535} {
			for kind := 1; kind <= 4; kind++ {
				all = append(all, layOut(capOf(kind, rights, 3, 1, badge)))
			}
			all = append(all, layOut(capOf(2, rights, 4, 1, badge)), layOut(capOf(2, rights, 3, 2, badge)), layOut(capOf(2, rights, 1, 3, badge)))
			all = append(all, layOut(capOf(5, rights, 0, 0, badge)), layOut(capOf(6, rights, 0, 0, badge)), layOut(capOf(1, rights, 0, 0, badge)))
		}
	}
	return all
}

// makes asks Word, and that 0 stands beside an error.
func makes(t *testing.T, c api.Cap, want uint64, e api.Errno) {
	t.Helper()
	if w, got := caps.Word(c); w != want || got != e {
		t.Errorf("Word(%v) = %x, %v, want %x, %v", c, w, got, want, e)
	}
}

// names asks Of, and that none stands beside false.
func names(t *testing.T, w uint64, want api.Cap, ok bool) {
	t.Helper()
	if c, got := caps.Of(w); c != want || got != ok {
		t.Errorf("Of(%x) = %v, %v, want %v, %v", w, c, got, want, ok)
	}
}

func diminishes(t *testing.T, w uint64, rights, badge int, want uint64, e api.Errno) {
	t.Helper()
	if d, got := caps.Diminish(w, rights, badge); d != want || got != e {
		t.Errorf("Diminish(%x, %d, %d) = %x, %v, want %x, %v", w, rights, badge, d, got, want, e)
	}
}

func may(t *testing.T, w uint64, kind, rights int, e api.Errno) {
	t.Helper()
	if got := caps.May(w, kind, rights); got != e {
		t.Errorf("May(%x, %d, %d) = %v, want %v", w, kind, rights, got, e)
	}
}

func within(t *testing.T, a, b uint64, want bool) {
	t.Helper()
	if got := caps.Within(a, b); got != want {
		t.Errorf("Within(%x, %x) = %v, want %v", a, b, got, want)
	}
}

// The chapter's examples.

func TestExamples(t *testing.T) {
	const that = 0x0009_000007_0005_31
	makes(t, capOf(1, 3, 5, 7, 9), that, api.OK)
	names(t, that, capOf(1, 3, 5, 7, 9), true)
	names(t, 0, api.Cap{}, false)
	diminishes(t, 0, 15, 0, 0, api.ErrKind)
	may(t, that, 1, 2, api.OK)
	may(t, that, 1, 4, api.ErrRights)
	may(t, that, 2, 0, api.ErrKind)
}

// P7.1

func TestWordLaysThePartsOut(t *testing.T) {
	makes(t, capOf(1, 0, 0, 0, 0), 0x1, api.OK)
	makes(t, capOf(1, 15, 0, 0, 0), 0xf1, api.OK)
	makes(t, capOf(1, 0, 48, 0, 0), 0x30_01, api.OK)
	makes(t, capOf(1, 0, 0, topVersion, 0), 0xffffff_0000_01, api.OK)
	makes(t, capOf(1, 0, 0, 0, 65535), 0xffff_000000_0000_01, api.OK)
	makes(t, capOf(4, 15, 48, topVersion, 65535), 0xffff_ffffff_0030_f4, api.OK)
	makes(t, capOf(5, 15, 0, 0, 65535), 0xffff_000000_0000_f5, api.OK)
	makes(t, capOf(6, 1, 0, 0, 0), 0x16, api.OK)
	for _, c := range goodCaps() {
		makes(t, c, layOut(c), api.OK)
	}
}

func TestWordOfWhatMayNotBe(t *testing.T) {
	for _, c := range badCaps() {
		makes(t, c, 0, api.ErrArg)
	}
}

func TestWordAtEachEdgeAlone(t *testing.T) {
	for _, x := range []struct {
		c api.Cap
		e api.Errno
	}{
		{capOf(0, 3, 0, 0, 9), api.ErrArg}, {capOf(1, 3, 0, 0, 9), api.OK}, {capOf(4, 3, 0, 0, 9), api.OK},
		{capOf(5, 3, 0, 0, 9), api.OK}, {capOf(6, 3, 0, 0, 9), api.OK}, {capOf(7, 3, 0, 0, 9), api.ErrArg},
		{capOf(2, -1, 5, 7, 9), api.ErrArg}, {capOf(2, 0, 5, 7, 9), api.OK}, {capOf(2, 15, 5, 7, 9), api.OK}, {capOf(2, 16, 5, 7, 9), api.ErrArg},
		{capOf(2, 3, -1, 7, 9), api.ErrArg}, {capOf(2, 3, 0, 7, 9), api.OK}, {capOf(2, 3, 48, 7, 9), api.OK}, {capOf(2, 3, 49, 7, 9), api.ErrArg},
		{capOf(2, 3, 5, -1, 9), api.ErrArg}, {capOf(2, 3, 5, 0, 9), api.OK}, {capOf(2, 3, 5, topVersion, 9), api.OK}, {capOf(2, 3, 5, 1<<24, 9), api.ErrArg},
		{capOf(2, 3, 5, 7, -1), api.ErrArg}, {capOf(2, 3, 5, 7, 0), api.OK}, {capOf(2, 3, 5, 7, 65535), api.OK}, {capOf(2, 3, 5, 7, 65536), api.ErrArg},
		{capOf(5, 3, 1, 0, 9), api.ErrArg}, {capOf(5, 3, 0, 1, 9), api.ErrArg}, {capOf(6, 3, 48, 0, 9), api.ErrArg}, {capOf(6, 3, 0, topVersion, 9), api.ErrArg},
		{capOf(4, 3, 1, 0, 9), api.OK}, {capOf(4, 3, 0, 1, 9), api.OK},
	} {
		want := uint64(0)
		if x.e == api.OK {
			want = layOut(x.c)
		}
		makes(t, x.c, want, x.e)
	}
}

func TestOfReadsThePartsBack(t *testing.T) {
	for _, c := range goodCaps() {
		names(t, layOut(c), c, true)
	}
}

func TestOfNoCapabilitysWord(t *testing.T) {
	for _, w := range badWords() {
		names(t, w, api.Cap{}, false)
	}
}

// Each word of which one bit is turned is taken, or not, by the rule alone.
func TestOfEachBitTurned(t *testing.T) {
	for _, c := range []api.Cap{{}, capOf(1, 0, 0, 0, 0), capOf(1, 3, 5, 7, 9), capOf(4, 15, 48, topVersion, 65535), capOf(5, 15, 0, 0, 0), capOf(6, 0, 0, 0, 65535)} {
		for at := 0; at < 64; at++ {
			w := layOut(c) ^ 1<<at
			if p := partsOf(w); allowed(p) {
				names(t, w, p, true)
			} else {
				names(t, w, api.Cap{}, false)
			}
		}
	}
}

// P7.2

func TestDiminishKeepsTheRightsThatBothHave(t *testing.T) {
	for have := 0; have <= 15; have++ {
		for rights := 0; rights <= 15; rights++ {
			both := 0
			for _, r := range []int{1, 2, 4, 8} {
				if have/r%2 == 1 && rights/r%2 == 1 {
					both += r
				}
			}
			for _, c := range []api.Cap{capOf(1, have, 5, 7, 9), capOf(4, have, 48, topVersion, 65535), capOf(5, have, 0, 0, 1), capOf(6, have, 0, 0, 65535)} {
				want := c
				want.Rights = both
				diminishes(t, layOut(c), rights, 0, layOut(want), api.OK)
			}
		}
	}
}

func TestDiminishSetsABadgeOnce(t *testing.T) {
	for _, own := range []int{0, 1, 9, 65535} {
		for _, badge := range []int{0, 1, 9, 256, 65534, 65535} {
			want := own
			if own == 0 {
				want = badge
			}
			diminishes(t, layOut(capOf(2, 7, 3, 1, own)), 5, badge, layOut(capOf(2, 5, 3, 1, want)), api.OK)
			diminishes(t, layOut(capOf(6, 1, 0, 0, own)), 0, badge, layOut(capOf(6, 0, 0, 0, want)), api.OK)
		}
	}
}

func TestDiminishLeavesAllElse(t *testing.T) {
	for _, c := range goodCaps() {
		diminishes(t, layOut(c), 15, 0, layOut(c), api.OK)
	}
}

func TestDiminishNoCapabilitysWord(t *testing.T) {
	for _, w := range badWords() {
		diminishes(t, w, 15, 9, 0, api.ErrKind)
	}
}

func TestDiminishWrongRightsAndBadges(t *testing.T) {
	for _, c := range []api.Cap{capOf(1, 0, 0, 0, 0), capOf(2, 7, 3, 1, 9), capOf(4, 15, 48, topVersion, 65535), capOf(5, 15, 0, 0, 0)} {
		w := layOut(c)
		for _, rights := range outOf(0, 15) {
			for _, badge := range []int{0, 9, 65535, -1, 65536} {
				diminishes(t, w, rights, badge, 0, api.ErrArg)
			}
		}
		for _, badge := range outOf(0, 65535) {
			for _, rights := range []int{0, 5, 15} {
				diminishes(t, w, rights, badge, 0, api.ErrArg)
			}
		}
	}
}

// What is no capability's word is told ahead of rights and badges that may not be.
func TestDiminishTellsKindFirst(t *testing.T) {
	for _, w := range badWords() {
		for _, rights := range []int{-1, 16, 3, math.MinInt, math.MaxInt} {
			for _, badge := range []int{-1, 65536, 9, math.MinInt, math.MaxInt} {
				diminishes(t, w, rights, badge, 0, api.ErrKind)
			}
		}
	}
}

// P7.3

func TestMayAsksKindAndRights(t *testing.T) {
	for have := 0; have <= 15; have++ {
		for rights := 0; rights <= 15; rights++ {
			want := api.OK
			for _, r := range []int{1, 2, 4, 8} {
				if rights/r%2 == 1 && have/r%2 == 0 {
					want = api.ErrRights
				}
			}
			for kind := 1; kind <= 6; kind++ {
				for asked := -1; asked <= 16; asked++ {
					e := want
					if asked != kind {
						e = api.ErrKind
					}
					may(t, layOut(capOf(kind, have, 0, 0, 9)), asked, rights, e)
				}
			}
		}
	}
}

func TestMayWhateverIdVersionAndBadge(t *testing.T) {
	for _, c := range goodCaps() {
		w := layOut(c)
		may(t, w, c.Kind, c.Rights, api.OK)
		may(t, w, c.Kind, 0, api.OK)
		may(t, w, c.Kind+1, 0, api.ErrKind)
		may(t, w, c.Kind+16, 0, api.ErrKind)
		may(t, w, c.Kind-1, c.Rights, api.ErrKind)
		if c.Rights != 15 {
			may(t, w, c.Kind, 15, api.ErrRights)
			may(t, w, c.Kind, 15-c.Rights, api.ErrRights)
		}
	}
}

// A kind that is not the word's is told ahead of rights that it does not have.
func TestMayTellsKindFirst(t *testing.T) {
	w := layOut(capOf(2, 3, 3, 1, 0))
	for _, kind := range []int{-1, 0, 1, 3, 7, 18, 1<<32 + 2, math.MinInt, math.MaxInt} {
		for _, rights := range []int{0, 3, 4, 15, 16, -1, math.MinInt} {
			may(t, w, kind, rights, api.ErrKind)
		}
	}
}

// What is no right, no capability has.
func TestMayOfWhatIsNoRight(t *testing.T) {
	for _, c := range []api.Cap{capOf(1, 0, 0, 0, 0), capOf(2, 15, 3, 1, 9), capOf(4, 15, 48, topVersion, 65535), capOf(5, 15, 0, 0, 1)} {
		for _, rights := range []int{16, 17, 31, 32, 1 << 8, 1 << 32, 1<<62 + 15, -1, -2, -16, math.MinInt, math.MaxInt} {
			may(t, layOut(c), c.Kind, rights, api.ErrRights)
		}
	}
}

func TestMayNoCapabilitysWord(t *testing.T) {
	for _, w := range badWords() {
		for _, kind := range []int{partsOf(w).Kind, 0, 1, 5, 6, 7, -1} {
			may(t, w, kind, 0, api.ErrKind)
			may(t, w, kind, 16, api.ErrKind)
		}
	}
}

func TestWithinRights(t *testing.T) {
	for a := 0; a <= 15; a++ {
		for b := 0; b <= 15; b++ {
			want := true
			for _, r := range []int{1, 2, 4, 8} {
				if a/r%2 == 1 && b/r%2 == 0 {
					want = false
				}
			}
			within(t, layOut(capOf(2, a, 3, 1, 9)), layOut(capOf(2, b, 3, 1, 9)), want)
			within(t, layOut(capOf(4, a, 48, topVersion, 0)), layOut(capOf(4, b, 48, topVersion, 65535)), want)
			within(t, layOut(capOf(5, a, 0, 0, 9)), layOut(capOf(5, b, 0, 0, 0)), want)
		}
	}
}

func TestWithinDoesNotAskTheBadge(t *testing.T) {
	for _, a := range []int{0, 1, 9, 65535} {
		for _, b := range []int{0, 1, 9, 65535} {
			within(t, layOut(capOf(2, 3, 3, 1, a)), layOut(capOf(2, 7, 3, 1, b)), true)
			within(t, layOut(capOf(2, 7, 3, 1, a)), layOut(capOf(2, 3, 3, 1, b)), false)
		}
	}
}

func TestWithinOfAnotherThing(t *testing.T) {
	own := layOut(capOf(2, 7, 3, 1, 9))
	within(t, own, own, true)
	for _, c := range []api.Cap{
		capOf(1, 7, 3, 1, 9), capOf(3, 7, 3, 1, 9), capOf(4, 7, 3, 1, 9),
		capOf(2, 7, 2, 1, 9), capOf(2, 7, 4, 1, 9), capOf(2, 7, 0, 1, 9), capOf(2, 7, 48, 1, 9),
		capOf(2, 7, 3, 0, 9), capOf(2, 7, 3, 2, 9), capOf(2, 7, 3, topVersion, 9), capOf(2, 7, 3, 1<<16+1, 9),
		capOf(2, 7, 1, 3, 9),
	} {
		within(t, layOut(c), own, false)
		within(t, own, layOut(c), false)
		c.Rights = 0
		within(t, layOut(c), own, false)
	}
	within(t, layOut(capOf(5, 3, 0, 0, 0)), layOut(capOf(6, 3, 0, 0, 0)), false)
	within(t, layOut(capOf(6, 3, 0, 0, 0)), layOut(capOf(5, 3, 0, 0, 0)), false)
	within(t, layOut(capOf(1, 3, 0, 0, 0)), layOut(capOf(5, 3, 0, 0, 0)), false)
}

func TestWithinNoCapabilitysWord(t *testing.T) {
	good := layOut(capOf(2, 7, 3, 1, 9))
	for _, w := range badWords() {
		within(t, w, w, false)
		within(t, w, good, false)
		within(t, good, w, false)
		within(t, 0, w, false)
		within(t, w, 0, false)
	}
}

// P7.4

func TestOfOfWordIsTheCapability(t *testing.T) {
	for _, c := range goodCaps() {
		w, e := caps.Word(c)
		if e != api.OK || w == 0 {
			t.Errorf("Word(%v) = %x, %v", c, w, e)
		}
		names(t, w, c, true)
	}
	for _, w := range badWords() {
		if c, ok := caps.Of(w); ok {
			makes(t, c, w, api.OK)
		}
	}
}

func TestWhatIsDiminishedIsWithin(t *testing.T) {
	for _, c := range goodCaps() {
		w := layOut(c)
		for rights := 0; rights <= 15; rights++ {
			for _, badge := range []int{0, 9, 65535} {
				d, e := caps.Diminish(w, rights, badge)
				if e != api.OK {
					t.Errorf("Diminish(%x, %d, %d): %v", w, rights, badge, e)
				}
				within(t, d, w, true)
				within(t, w, d, c.Rights&^rights == 0)
			}
		}
	}
}

// Twice is as once by the rights that both have; the badge is the first that is not 0.
func TestDiminishedTwiceIsAsOnce(t *testing.T) {
	for _, c := range []api.Cap{capOf(1, 15, 5, 7, 0), capOf(2, 7, 3, 1, 9), capOf(3, 10, 48, topVersion, 65535), capOf(4, 0, 0, 0, 0), capOf(5, 15, 0, 0, 0), capOf(6, 6, 0, 0, 1)} {
		w := layOut(c)
		for a := 0; a <= 15; a++ {
			for b := 0; b <= 15; b++ {
				for _, badges := range [][3]int{{0, 0, 0}, {4, 0, 4}, {0, 6, 6}, {4, 6, 4}, {65535, 1, 65535}} {
					once, _ := caps.Diminish(w, a, badges[0])
					twice, e := caps.Diminish(once, b, badges[1])
					if e != api.OK {
						t.Errorf("Diminish(%x, %d, %d): %v", once, b, badges[1], e)
					}
					diminishes(t, w, a&b, badges[2], twice, api.OK)
				}
			}
		}
	}
}

func TestWithinIsAnOrderButForBadges(t *testing.T) {
	all := someWords()
	for _, a := range all {
		_, ok := caps.Of(a)
		within(t, a, a, ok)
		for _, b := range all {
			if !caps.Within(a, b) {
				continue
			}
			if caps.Within(b, a) && a<<16 != b<<16 {
				t.Errorf("%x and %x are within one another", a, b)
			}
			for _, c := range all {
				if caps.Within(b, c) && !caps.Within(a, c) {
					t.Errorf("%x is within %x, that within %x, but not the first within the last", a, b, c)
				}
			}
		}
	}
}

// chance is a word that is a capability's now and then: some of its parts at an edge, some anywhere.
func chance(r *rand.Rand) uint64 {
	if r.Intn(8) == 0 {
		return r.Uint64()
	}
	pick := func(edges ...int) int { return edges[r.Intn(len(edges))] }
	return layOut(capOf(r.Intn(9), r.Intn(16), pick(0, 0, 3, 48, 49, r.Intn(65536)), pick(0, 0, 1, topVersion, r.Intn(1<<24)), pick(0, 9, 65535, r.Intn(65536))))
}

// All calls, of words of chance, against the chapter's rule.
func TestCallsOfChance(t *testing.T) {
	r := rand.New(rand.NewSource(7))
	for range 200000 {
		a, b := chance(r), chance(r)
		if r.Intn(2) == 0 {
			b = a ^ uint64(r.Intn(16))<<4 ^ uint64(r.Intn(3))<<48
		}
		pa, pb := partsOf(a), partsOf(b)
		rights, badge, kind := r.Intn(18)-1, r.Intn(65538)-1, r.Intn(8)
		inRights, inBadge := rights >= 0 && rights <= 15, badge >= 0 && badge <= 65535
		switch {
		case !allowed(pa):
			names(t, a, api.Cap{}, false)
			makes(t, pa, 0, api.ErrArg)
			diminishes(t, a, rights, badge, 0, api.ErrKind)
			may(t, a, kind, rights, api.ErrKind)
			within(t, a, b, false)
			continue
		case !inRights || !inBadge:
			diminishes(t, a, rights, badge, 0, api.ErrArg)
		default:
			want := pa
			want.Rights = pa.Rights & rights
			if pa.Badge == 0 {
				want.Badge = badge
			}
			diminishes(t, a, rights, badge, layOut(want), api.OK)
		}
		names(t, a, pa, true)
		makes(t, pa, a, api.OK)
		e := api.OK
		if pa.Kind != kind {
			e = api.ErrKind
		} else if !inRights || pa.Rights&rights != rights {
			e = api.ErrRights
		}
		may(t, a, kind, rights, e)
		within(t, a, b, allowed(pb) && pa.Kind == pb.Kind && pa.Id == pb.Id && pa.Version == pb.Version && pa.Rights&pb.Rights == pa.Rights)
	}
}

package entry_test

import (
	"math"
	"math/rand"
	"testing"

	"steadfast/api"
	"steadfast/caps"
	"steadfast/entry"
)

const (
	full       = math.MaxUint64
	topVersion = 1<<24 - 1
	topLine    = 1023
)

func entryOf(kind, version, line int) api.Entry {
	return api.Entry{Kind: kind, Version: version, Line: line}
}

// layOut is the chapter's word of x, whether it may be or not: bit by bit, a part taken modulo its width.
func layOut(x api.Entry) uint64 {
	w, at := uint64(0), 0
	for _, part := range []struct{ value, bits int }{{x.Kind, 4}, {x.Version, 24}, {x.Line, 16}} {
		for i := 0; i < part.bits; i++ {
			if part.value>>i&1 == 1 {
				w += 1 << (at + i)
			}
		}
		at += part.bits
	}
	return w
}

// partsOf are the parts that the lowest 44 bits of w name, whether such an entry may be or not, and what is above them.
func partsOf(w uint64) (x api.Entry, rest uint64) {
	x.Kind, w = int(w%16), w/16
	x.Version, w = int(w%(1<<24)), w>>24
	x.Line, rest = int(w%65536), w/65536
	return x, rest
}

// allowed is the chapter's rule of which entry may be.
func allowed(x api.Entry) bool {
	in := func(n, least, most int) bool { return least <= n && n <= most }
	if !in(x.Kind, 0, 4) || !in(x.Version, 0, topVersion) || !in(x.Line, 0, topLine) {
		return false
	}
	return x.Kind != 0 || x.Line == 0
}

// capWord is the word of a capability that may be, by caps' own chapter.
func capWord(t *testing.T, kind, rights, id, version, badge int) uint64 {
	t.Helper()
	w, e := caps.Word(api.Cap{Kind: kind, Rights: rights, Id: id, Version: version, Badge: badge})
	if e != api.OK {
		t.Fatalf("no capability: %d, %d, %d, %d, %d", kind, rights, id, version, badge)
	}
	return w
}

// goodEntries are entries that may be, each edge among them.
func goodEntries() []api.Entry {
	all := []api.Entry{entryOf(1, 2, 3), entryOf(3, 0xabcdef, 0x234)}
	for _, version := range []int{0, 1, 2, 15, 16, 1 << 8, 1 << 16, 1 << 23, topVersion - 1, topVersion} {
		all = append(all, entryOf(0, version, 0))
		for kind := 1; kind <= 4; kind++ {
			for _, line := range []int{0, 1, 2, 34, 255, 256, 511, 512, 1022, topLine} {
				all = append(all, entryOf(kind, version, line))
			}
		}
	}
	return all
}

// outOf are numbers that are not least to most, those among them whose lowest bits are such a number.
func outOf(least, most int) []int {
	var all []int
	for _, n := range []int{least - 1, most + 1, least - 2, most + 2, -most - 1, 5, 8, 15, 16, 17, 1 << 10, 1<<16 - 1, 1 << 16, 1<<16 + 3, 1 << 24, 1<<24 + 1, 1<<28 + 1, 1 << 32, 1<<32 + 1, 1<<44 + 1, -1 << 32, 1 << 60, 1<<60 + 1, 1 << 62, math.MinInt, math.MinInt + 1, math.MaxInt} {
		if n < least || n > most {
			all = append(all, n)
		}
	}
	return all
}

// badEntries are entries that may not be: by one part alone, at each edge of the others, and by several.
func badEntries() []api.Entry {
	all := []api.Entry{entryOf(-1, -1, -1), entryOf(5, 1<<24, 1024), entryOf(math.MinInt, math.MaxInt, math.MinInt), entryOf(0, -1, 1), entryOf(0, 1<<24, -1)}
	for _, x := range []api.Entry{entryOf(0, 0, 0), entryOf(0, topVersion, 0), entryOf(1, 0, 0), entryOf(4, topVersion, topLine), entryOf(2, 7, 34)} {
		for _, n := range outOf(0, 4) {
			all = append(all, entryOf(n, x.Version, x.Line))
		}
		for _, n := range outOf(0, topVersion) {
			all = append(all, entryOf(x.Kind, n, x.Line))
		}
		for _, n := range outOf(0, topLine) {
			all = append(all, entryOf(x.Kind, x.Version, n))
		}
	}
	for _, version := range []int{0, 1, 9, topVersion} {
		for _, line := range []int{1, 2, 34, 512, topLine} {
			all = append(all, entryOf(0, version, line))
		}
	}
	return all
}

// badWords are words of no entry: each is so by one part at least.
func badWords() []uint64 {
	all := []uint64{full, 1 << 63, full - (1<<44 - 1), full - (1<<28 - 1), 1 << 28, 5, 15}
	for _, x := range goodEntries() {
		for at := 44; at < 64; at++ {
			all = append(all, layOut(x)|1<<at)
		}
		for kind := 5; kind <= 15; kind++ {
			all = append(all, layOut(entryOf(kind, x.Version, x.Line)))
		}
		for _, line := range []int{1024, 1025, 1 << 11, 1 << 15, 1<<15 + 3, 65535} {
			all = append(all, layOut(entryOf(x.Kind, x.Version, line)))
		}
		if x.Line != 0 {
			all = append(all, layOut(entryOf(0, x.Version, x.Line)))
		}
	}
	return all
}

// noCaps are words of no capability, some of them near one to the object 7 of the version 3.
func noCaps() []uint64 {
	return []uint64{0, full, 7, 8, 15, 1 << 63, 3<<24 | 7<<8, 3<<24 | 7<<8 | 7, 3<<24 | 7<<8 | 15, 3<<24 | 49<<8 | 2, 3<<24 | 7<<8 | 5, 3<<24 | 7<<8 | 6, 7<<8 | 5, 3<<24 | 6}
}

// makes asks Word, and that 0 stands beside an error.
func makes(t *testing.T, x api.Entry, want uint64, e api.Errno) {
	t.Helper()
	if w, got := entry.Word(x); w != want || got != e {
		t.Errorf("Word(%v) = %x, %v, want %x, %v", x, w, got, want, e)
	}
}

// reads asks Of, and that none stands beside false.
func reads(t *testing.T, w uint64, want api.Entry, ok bool) {
	t.Helper()
	if x, got := entry.Of(w); x != want || got != ok {
		t.Errorf("Of(%x) = %v, %v, want %v, %v", w, x, got, want, ok)
	}
}

func names(t *testing.T, x api.Entry, id int, c uint64, e api.Errno) {
	t.Helper()
	if got := entry.Names(x, id, c); got != e {
		t.Errorf("Names(%v, %d, %x) = %v, want %v", x, id, c, got, e)
	}
}

// ends asks End, and that none stands beside an error.
func ends(t *testing.T, x, want api.Entry, e api.Errno) {
	t.Helper()
	if y, got := entry.End(x); y != want || got != e {
		t.Errorf("End(%v) = %v, %v, want %v, %v", x, y, got, want, e)
	}
}

func opens(t *testing.T, x api.Entry, want bool) {
	t.Helper()
	if got := entry.Open(x); got != want {
		t.Errorf("Open(%v) = %v, want %v", x, got, want)
	}
}

// The chapter's examples.

func TestExamples(t *testing.T) {
	const that = 0x0003_000002_1
	makes(t, entryOf(1, 2, 3), that, api.OK)
	reads(t, that, entryOf(1, 2, 3), true)
	reads(t, that|1<<44, api.Entry{}, false)
	ends(t, entryOf(1, 5, 9), entryOf(0, 6, 0), api.OK)
	ends(t, entryOf(0, 5, 0), api.Entry{}, api.ErrNone)
	opens(t, entryOf(0, topVersion, 0), false)
}

// P8.1

func TestWordLaysThePartsOut(t *testing.T) {
	makes(t, entryOf(0, 0, 0), 0, api.OK)
	makes(t, entryOf(4, 0, 0), 0x4, api.OK)
	makes(t, entryOf(0, 1, 0), 0x1_0, api.OK)
	makes(t, entryOf(0, topVersion, 0), 0xffffff_0, api.OK)
	makes(t, entryOf(1, 0, 1), 0x1_000000_1, api.OK)
	makes(t, entryOf(1, 0, topLine), 0x03ff_000000_1, api.OK)
	makes(t, entryOf(4, topVersion, topLine), 0x03ff_ffffff_4, api.OK)
	for _, x := range goodEntries() {
		makes(t, x, layOut(x), api.OK)
	}
}

func TestWordOfWhatMayNotBe(t *testing.T) {
	for _, x := range badEntries() {
		makes(t, x, 0, api.ErrArg)
	}
}

func TestWordAtEachEdgeAlone(t *testing.T) {
	for _, x := range []struct {
		x api.Entry
		e api.Errno
	}{
		{entryOf(-1, 7, 0), api.ErrArg}, {entryOf(0, 7, 0), api.OK}, {entryOf(1, 7, 0), api.OK}, {entryOf(4, 7, 0), api.OK}, {entryOf(5, 7, 0), api.ErrArg},
		{entryOf(-1, 7, 34), api.ErrArg}, {entryOf(1, 7, 34), api.OK}, {entryOf(4, 7, 34), api.OK}, {entryOf(5, 7, 34), api.ErrArg},
		{entryOf(2, -1, 34), api.ErrArg}, {entryOf(2, 0, 34), api.OK}, {entryOf(2, topVersion, 34), api.OK}, {entryOf(2, 1<<24, 34), api.ErrArg},
		{entryOf(0, -1, 0), api.ErrArg}, {entryOf(0, 0, 0), api.OK}, {entryOf(0, topVersion, 0), api.OK}, {entryOf(0, 1<<24, 0), api.ErrArg},
		{entryOf(2, 7, -1), api.ErrArg}, {entryOf(2, 7, 0), api.OK}, {entryOf(2, 7, topLine), api.OK}, {entryOf(2, 7, 1024), api.ErrArg},
		{entryOf(0, 7, -1), api.ErrArg}, {entryOf(0, 7, 1), api.ErrArg}, {entryOf(0, 7, topLine), api.ErrArg}, {entryOf(0, 7, 1024), api.ErrArg},
	} {
		want := uint64(0)
		if x.e == api.OK {
			want = layOut(x.x)
		}
		makes(t, x.x, want, x.e)
	}
}

func TestOfReadsThePartsBack(t *testing.T) {
	reads(t, 0, api.Entry{}, true)
	for _, x := range goodEntries() {
		reads(t, layOut(x), x, true)
	}
}

func TestOfNoEntrysWord(t *testing.T) {
	for _, w := range badWords() {
		reads(t, w, api.Entry{}, false)
	}
}

// Each word of which one bit is turned is taken, or not, by the rule alone.
func TestOfEachBitTurned(t *testing.T) {
	for _, x := range goodEntries() {
		for at := 0; at < 64; at++ {
			w := layOut(x) ^ 1<<at
			if p, rest := partsOf(w); rest == 0 && allowed(p) {
				reads(t, w, p, true)
			} else {
				reads(t, w, api.Entry{}, false)
			}
		}
	}
}

// P8.2

// A capability of each kind, to the same number or another one, of the same version or another one, against an entry of each kind.
func TestNamesEachWay(t *testing.T) {
	for kind := 1; kind <= 4; kind++ {
		for own := 0; own <= 4; own++ {
			for _, id := range []int{6, 7, 8} {
				for _, version := range []int{2, 3, 4} {
					want := api.OK
					switch {
					case id != 7:
						want = api.ErrNone
					case version != 3:
						want = api.ErrStale
					case own == 0:
						want = api.ErrNone
					case own != kind:
						want = api.ErrKind
					}
					line := 0
					if own != 0 {
						line = 34
					}
					names(t, entryOf(own, 3, line), 7, capWord(t, kind, 3, id, version, 0), want)
				}
			}
		}
	}
}

func TestNamesTheSame(t *testing.T) {
	for _, x := range goodEntries() {
		for _, id := range []int{0, 1, 7, 47, 48} {
			if x.Kind == 0 {
				names(t, x, id, capWord(t, 1, 3, id, x.Version, 0), api.ErrNone)
			} else {
				names(t, x, id, capWord(t, x.Kind, 3, id, x.Version, 0), api.OK)
			}
		}
	}
}

func TestNamesWhateverRightsBadgeAndLine(t *testing.T) {
	for rights := 0; rights <= 15; rights++ {
		for _, badge := range []int{0, 1, 9, 65535} {
			for _, line := range []int{0, 1, 34, topLine} {
				c := capWord(t, 2, rights, 7, 3, badge)
				names(t, entryOf(2, 3, line), 7, c, api.OK)
				names(t, entryOf(1, 3, line), 7, c, api.ErrKind)
				names(t, entryOf(2, 4, line), 7, c, api.ErrStale)
				names(t, entryOf(2, 3, line), 8, c, api.ErrNone)
			}
		}
	}
}

func TestNamesVersionsAtTheEdges(t *testing.T) {
	edges := []int{0, 1, 2, 1 << 16, 1<<16 + 1, topVersion - 1, topVersion}
	for _, a := range edges {
		for _, b := range edges {
			c, want, none := capWord(t, 4, 0, 48, b, 0), api.ErrStale, api.ErrStale
			if a == b {
				want, none = api.OK, api.ErrNone
			}
			names(t, entryOf(4, a, 34), 48, c, want)
			names(t, entryOf(0, a, 0), 48, c, none)
		}
	}
}

// Of a bank, or a clock, there is no object: not with an entry of that number, nor of one that may not be.
func TestNamesOfBankAndClock(t *testing.T) {
	for _, kind := range []int{5, 6} {
		for _, rights := range []int{0, 3, 15} {
			c := capWord(t, kind, rights, 0, 0, 9)
			for own := -1; own <= 7; own++ {
				for _, version := range []int{-1, 0, 1, topVersion} {
					for _, id := range []int{0, 1, 48, 49, -1} {
						names(t, entryOf(own, version, 0), id, c, api.ErrKind)
					}
				}
			}
		}
	}
}

// What is no capability's word is told ahead of all else.
func TestNamesNoCapabilitysWord(t *testing.T) {
	for _, c := range noCaps() {
		for own := -1; own <= 7; own++ {
			for _, version := range []int{0, 3, 4, topVersion} {
				for _, id := range []int{0, 7, 8, 49, -1} {
					names(t, entryOf(own, version, 0), id, c, api.ErrKind)
				}
			}
		}
	}
}

// A number that is none is not the capability's, whatever its lowest bits.
func TestNamesOfWrongIds(t *testing.T) {
	c := capWord(t, 2, 3, 7, 3, 0)
	for _, id := range []int{-1, -7, 49, 50, 1<<16 + 7, 1<<32 + 7, 1<<62 + 7, math.MinInt, math.MinInt + 7, math.MaxInt} {
		for own := 0; own <= 4; own++ {
			for _, version := range []int{2, 3, 4} {
				names(t, entryOf(own, version, 0), id, c, api.ErrNone)
			}
		}
	}
}

// Of an entry that may not be, the same is asked in the same order.
func TestNamesOfEntriesThatMayNotBe(t *testing.T) {
	c := capWord(t, 2, 3, 7, 3, 0)
	for _, x := range badEntries() {
		want := api.OK
		switch {
		case x.Version != 3:
			want = api.ErrStale
		case x.Kind == 0:
			want = api.ErrNone
		case x.Kind != 2:
			want = api.ErrKind
		}
		names(t, x, 7, c, want)
		names(t, x, 8, c, api.ErrNone)
	}
	names(t, entryOf(0, 3, 34), 7, c, api.ErrNone)
	names(t, entryOf(2, 3, 1024), 7, c, api.OK)
	names(t, entryOf(5, 3, 0), 7, c, api.ErrKind)
	names(t, entryOf(18, 3, 34), 7, c, api.ErrKind)
	names(t, entryOf(2, 3+1<<24, 34), 7, c, api.ErrStale)
}

// P8.3

func TestEndRaisesTheVersion(t *testing.T) {
	for kind := 1; kind <= 4; kind++ {
		for _, line := range []int{0, 1, 34, topLine} {
			for _, version := range []int{0, 1, 5, 1<<16 - 1, 1 << 16, topVersion - 2, topVersion - 1} {
				ends(t, entryOf(kind, version, line), entryOf(0, version+1, 0), api.OK)
			}
			ends(t, entryOf(kind, topVersion, line), entryOf(0, topVersion, 0), api.OK)
		}
	}
}

func TestEndOfNone(t *testing.T) {
	for _, version := range []int{0, 1, 5, topVersion - 1, topVersion, -1, 1 << 24, math.MinInt, math.MaxInt} {
		for _, line := range []int{0, 1, topLine, 1024, -1} {
			ends(t, entryOf(0, version, line), api.Entry{}, api.ErrNone)
		}
	}
}

// The chapter tells no error of an entry that may not be: its version is one more, too.
func TestEndOfEntriesThatMayNotBe(t *testing.T) {
	for _, kind := range []int{-1, 5, 6, 16, math.MinInt, math.MaxInt} {
		ends(t, entryOf(kind, 5, 9), entryOf(0, 6, 0), api.OK)
		ends(t, entryOf(kind, topVersion, 9), entryOf(0, topVersion, 0), api.OK)
	}
	for _, line := range []int{-1, 1024, math.MinInt, math.MaxInt} {
		ends(t, entryOf(1, 5, line), entryOf(0, 6, 0), api.OK)
	}
	for _, version := range []int{-1, -2, 1 << 24, 1 << 32, math.MinInt, math.MaxInt - 1} {
		ends(t, entryOf(1, version, 9), entryOf(0, version+1, 0), api.OK)
	}
}

func TestOpen(t *testing.T) {
	for _, version := range []int{0, 1, 5, 1 << 16, topVersion - 2, topVersion - 1} {
		opens(t, entryOf(0, version, 0), true)
	}
	opens(t, entryOf(0, topVersion, 0), false)
	for _, x := range goodEntries() {
		opens(t, x, x.Kind == 0 && x.Version != topVersion)
	}
}

func TestOpenOfEntriesThatMayNotBe(t *testing.T) {
	for _, version := range []int{1 << 24, 1<<24 + 1, 1 << 32, math.MaxInt} {
		opens(t, entryOf(0, version, 0), false)
	}
	for _, kind := range []int{-1, 5, 16, math.MinInt, math.MaxInt} {
		opens(t, entryOf(kind, 0, 0), false)
	}
	for _, x := range badEntries() {
		opens(t, x, x.Kind == 0 && x.Version < topVersion)
	}
}

// P8.4

func TestOfOfWordIsTheEntry(t *testing.T) {
	for _, x := range goodEntries() {
		w, e := entry.Word(x)
		if e != api.OK {
			t.Errorf("Word(%v): %v", x, e)
		}
		reads(t, w, x, true)
	}
	for _, w := range badWords() {
		if x, ok := entry.Of(w); ok {
			makes(t, x, w, api.OK)
		}
	}
}

func TestWhatIsEndedIsNotNamed(t *testing.T) {
	for _, x := range goodEntries() {
		if x.Kind == 0 {
			continue
		}
		for _, rights := range []int{0, 3, 15} {
			c := capWord(t, x.Kind, rights, 7, x.Version, 9)
			names(t, x, 7, c, api.OK)
			y, e := entry.End(x)
			if e != api.OK {
				t.Fatalf("End(%v): %v", x, e)
			}
			want := api.ErrStale
			if x.Version == topVersion {
				want = api.ErrNone
			}
			names(t, y, 7, c, want)
			makes(t, y, layOut(y), api.OK)
			opens(t, y, x.Version < topVersion-1)
		}
	}
}

// Objects are made and ended in one place till no more may be: of all capabilities to them none names a later one.
func TestWhatIsMadeInItsPlaceIsNotNamed(t *testing.T) {
	x := entryOf(0, topVersion-20, 0)
	var old []uint64
	for round := 0; entry.Open(x); round++ {
		if round > 20 {
			t.Fatal("a place that stays open")
		}
		x.Kind, x.Line = 1+round%4, round
		for _, c := range old {
			names(t, x, 7, c, api.ErrStale)
		}
		own := capWord(t, x.Kind, 15, 7, x.Version, 0)
		names(t, x, 7, own, api.OK)
		old = append(old, own)
		x, _ = entry.End(x)
		for _, c := range old {
			if entry.Names(x, 7, c) == api.OK {
				t.Errorf("%x names the ended %v", c, x)
			}
		}
	}
	if len(old) != 20 || x != entryOf(0, topVersion, 0) {
		t.Errorf("%d objects were made, the last entry is %v", len(old), x)
	}
}

// chance is a word that is an entry's now and then: some of its parts at an edge, some anywhere.
func chance(r *rand.Rand) uint64 {
	if r.Intn(8) == 0 {
		return r.Uint64()
	}
	pick := func(edges ...int) int { return edges[r.Intn(len(edges))] }
	w := layOut(entryOf(r.Intn(6), pick(0, 1, topVersion-1, topVersion, r.Intn(1<<24)), pick(0, 0, 34, topLine, 1024, r.Intn(65536))))
	if r.Intn(8) == 0 {
		w |= 1 << (44 + r.Intn(20))
	}
	return w
}

// All calls, of words of chance, against the chapter's rule.
func TestCallsOfChance(t *testing.T) {
	r := rand.New(rand.NewSource(8))
	for range 200000 {
		w := chance(r)
		x, rest := partsOf(w)
		if !allowed(x) || rest != 0 {
			reads(t, w, api.Entry{}, false)
			if rest == 0 {
				makes(t, x, 0, api.ErrArg)
			}
			continue
		}
		reads(t, w, x, true)
		makes(t, x, w, api.OK)
		opens(t, x, x.Kind == 0 && x.Version != topVersion)
		kind, id, version := 1+r.Intn(4), r.Intn(3), min(topVersion, max(0, x.Version+r.Intn(3)-1))
		want := api.OK
		switch {
		case id != 1:
			want = api.ErrNone
		case version != x.Version:
			want = api.ErrStale
		case x.Kind == 0:
			want = api.ErrNone
		case kind != x.Kind:
			want = api.ErrKind
		}
		names(t, x, 1, capWord(t, kind, r.Intn(16), id, version, r.Intn(65536)), want)
		if x.Kind == 0 {
			ends(t, x, api.Entry{}, api.ErrNone)
		} else {
			ends(t, x, entryOf(0, min(x.Version+1, topVersion), 0), api.OK)
		}
	}
}

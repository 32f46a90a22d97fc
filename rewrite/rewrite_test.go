package rewrite_test

import (
	"math"
	"math/rand"
	"testing"

	"tenaille/api"
	"tenaille/rewrite"
)

// Numbers at the edges of their kinds.
var (
	indices  = []int64{math.MinInt64, math.MinInt64 + 1, -1 << 48, -1 << 32, -2, -1, 0, 1, 2, 7, 65535, 65536, 1<<31 - 1, 1 << 31, 1<<32 - 1, 1 << 32, 1<<48 - 1, 1 << 48, 1<<62 - 1, 1 << 62, math.MaxInt64 - 1, math.MaxInt64}
	stamps   = []uint32{0, 1, 2, 90, 2999, 3000, 3001, 65535, 65536, 1<<31 - 1, 1 << 31, 1<<31 + 1, math.MaxUint32 - 3000, math.MaxUint32 - 2999, math.MaxUint32 - 1, math.MaxUint32}
	pictures = []uint16{0, 1, 2, 127, 128, 255, 256, 16383, 16384, 32766, 32767, 32768, 32769, 49152, 65534, 65535}
)

func at(index int64, stamp uint32, picture uint16) api.Mapped {
	return api.Mapped{Index: index, Stamp: stamp, Picture: picture}
}

func follow(t *testing.T, w *rewrite.Writer, x api.Mapped) {
	t.Helper()
	if e := w.Follow(x); e != api.OK {
		t.Fatalf("Follow(%+v): %d", x, e)
	}
}

// goes: a packet has that place, and went out.
func goes(t *testing.T, w *rewrite.Writer, x, want api.Mapped) {
	t.Helper()
	if y, e := w.Map(x); y != want || e != api.OK {
		t.Fatalf("Map(%+v): %+v, %d; want %+v, 0", x, y, e, want)
	}
}

// refused: a packet has no place, and what went out is what it was.
func refused(t *testing.T, w *rewrite.Writer, x api.Mapped, want api.Errno) {
	t.Helper()
	was := *w
	if y, e := w.Map(x); y != (api.Mapped{}) || e != want {
		t.Fatalf("Map(%+v): %+v, %d; want nothing, %d", x, y, e, want)
	}
	if *w != was {
		t.Fatalf("Map(%+v) is refused, and turned %+v to %+v", x, was, *w)
	}
}

func high(t *testing.T, w *rewrite.Writer, want int64) {
	t.Helper()
	if h := w.High(); h != want {
		t.Fatalf("High: %d; want %d", h, want)
	}
}

func TestTheChaptersExample(t *testing.T) {
	var w rewrite.Writer
	w.Start(100)
	follow(t, &w, at(7, 0, 0))
	goes(t, &w, at(7, 0, 0), at(100, 0, 0))
	goes(t, &w, at(9, 0, 0), at(102, 0, 0))
	follow(t, &w, at(50, 0, 0))
	goes(t, &w, at(50, 0, 0), at(103, 3000, 1))
}

func TestGap(t *testing.T) {
	if rewrite.Gap != 3000 {
		t.Fatal(rewrite.Gap)
	}
}

// P22.1: Start.

func TestStartTellsTheFirstIndex(t *testing.T) {
	for _, first := range indices {
		for _, there := range indices {
			if there < 0 {
				continue
			}
			var w rewrite.Writer
			w.Start(first)
			high(t, &w, -1)
			follow(t, &w, at(there, 77, 88))
			high(t, &w, -1)
			goes(t, &w, at(there, 77, 88), at(max(first, 0), 0, 0))
			high(t, &w, max(first, 0))
		}
	}
}

func TestTheLastStartHolds(t *testing.T) {
	for _, a := range indices {
		for _, b := range indices {
			var w rewrite.Writer
			w.Start(a)
			w.Start(b)
			want := max(a, 0)
			if b >= 0 {
				want = b
			}
			follow(t, &w, at(4, 0, 0))
			goes(t, &w, at(4, 0, 0), at(want, 0, 0))
		}
	}
}

// Behind a Follow, Start does nothing: nothing went out yet, or something did, or another source is followed.
func TestStartOfOneThatHasFollowed(t *testing.T) {
	for _, first := range indices {
		var w rewrite.Writer
		w.Start(20)
		follow(t, &w, at(0, 0, 0))
		w.Start(first)
		follow(t, &w, at(5, 0, 0))
		w.Start(first)
		goes(t, &w, at(6, 0, 0), at(21, 0, 0))
		w.Start(first)
		goes(t, &w, at(8, 0, 0), at(23, 0, 0))
		follow(t, &w, at(1, 0, 0))
		w.Start(first)
		goes(t, &w, at(1, 0, 0), at(24, 3000, 1))
		high(t, &w, 24)
	}
}

// Even a source that begins with nothing but zeros, behind First 0, was followed.
func TestStartBehindASourceOfZeros(t *testing.T) {
	var w rewrite.Writer
	follow(t, &w, at(0, 0, 0))
	w.Start(9)
	goes(t, &w, at(0, 0, 0), at(0, 0, 0))
	high(t, &w, 0)
	follow(t, &w, at(0, 0, 0))
	goes(t, &w, at(0, 0, 0), at(1, 3000, 1))
}

// What was refused followed nothing.
func TestStartBehindARefusedFollow(t *testing.T) {
	var w rewrite.Writer
	w.Start(3)
	if e := w.Follow(at(-1, 5, 5)); e != api.ErrState {
		t.Fatal(e)
	}
	w.Start(11)
	follow(t, &w, at(2, 5, 5))
	goes(t, &w, at(2, 5, 5), at(11, 0, 0))
}

// P22.1: Follow.

func TestWhatMayBeFollowed(t *testing.T) {
	for _, index := range indices {
		for _, stamp := range stamps {
			for _, picture := range pictures {
				var w rewrite.Writer
				x := at(index, stamp, picture)
				if index < 0 {
					if e := w.Follow(x); e != api.ErrState || w != (rewrite.Writer{}) {
						t.Fatalf("Follow(%+v): %d", x, e)
					}
					refused(t, &w, at(5, 5, 5), api.ErrState)
					continue
				}
				follow(t, &w, x)
				high(t, &w, -1)
				goes(t, &w, x, at(0, 0, 0))
			}
		}
	}
}

// The source that was followed is followed still.
func TestARefusedFollowTurnsNothing(t *testing.T) {
	for _, index := range []int64{-1, -2, -1 << 48, math.MinInt64} {
		var w rewrite.Writer
		follow(t, &w, at(10, 100, 3))
		goes(t, &w, at(12, 190, 4), at(2, 90, 1))
		was := w
		if e := w.Follow(at(index, 7, 7)); e != api.ErrState || w != was {
			t.Fatalf("Follow(%d): %d, %+v; was %+v", index, e, w, was)
		}
		goes(t, &w, at(13, 280, 5), at(3, 180, 2))
		refused(t, &w, at(9, 0, 0), api.ErrOld)
	}
}

// By Follow nothing goes out: who was followed and sent nothing leaves no gap.
func TestFollowAloneLetsNothingGoOut(t *testing.T) {
	var w rewrite.Writer
	w.Start(40)
	for i := range int64(50) {
		follow(t, &w, at(1000*i, uint32(i), uint16(i)))
		high(t, &w, -1)
	}
	goes(t, &w, at(49_000, 49, 49), at(40, 0, 0))
	for i := range int64(50) {
		follow(t, &w, at(7*i, uint32(i), uint16(i)))
		high(t, &w, 40)
	}
	goes(t, &w, at(343, 49, 49), at(41, 3000, 1))
}

// Nothing but the source that is followed goes out: of those before it there is nothing left.
func TestTheSourceBeforeIsGone(t *testing.T) {
	var w rewrite.Writer
	follow(t, &w, at(10, 0, 0))
	goes(t, &w, at(10, 0, 0), at(0, 0, 0))
	follow(t, &w, at(500, 90, 9))
	refused(t, &w, at(11, 0, 0), api.ErrOld)
	refused(t, &w, at(499, 0, 0), api.ErrOld)
	goes(t, &w, at(500, 90, 9), at(1, 3000, 1))
	follow(t, &w, at(3, 1, 1))
	goes(t, &w, at(499, 2, 2), at(498, 6001, 3))
}

// P22.2: Map.

func TestWhatOneSourcesPacketsBecome(t *testing.T) {
	for _, there := range indices {
		for _, index := range indices {
			if there < 0 {
				continue
			}
			var w rewrite.Writer
			follow(t, &w, at(there, 0, 0))
			x := at(index, 5, 6)
			switch {
			case index < 0:
				refused(t, &w, x, api.ErrState)
			case index < there:
				refused(t, &w, x, api.ErrOld)
			default:
				goes(t, &w, x, at(index-there, 5, 6))
			}
		}
	}
}

func TestWithoutASourceNothingGoes(t *testing.T) {
	for _, index := range indices {
		var w rewrite.Writer
		refused(t, &w, at(index, 1, 1), api.ErrState)
		w.Start(5)
		refused(t, &w, at(index, 1, 1), api.ErrState)
		high(t, &w, -1)
	}
}

// An index below 0 is ErrState, though it is below where the source was begun, too.
func TestBelowZeroComesFirst(t *testing.T) {
	var w rewrite.Writer
	follow(t, &w, at(5, 0, 0))
	refused(t, &w, at(-1, 0, 0), api.ErrState)
	refused(t, &w, at(0, 0, 0), api.ErrOld)
	refused(t, &w, at(4, 0, 0), api.ErrOld)
	goes(t, &w, at(5, 0, 0), at(0, 0, 0))
	refused(t, &w, at(-1, 0, 0), api.ErrState)
	refused(t, &w, at(4, 0, 0), api.ErrOld)
}

func TestStampsGoByTheirDifferences(t *testing.T) {
	for _, there := range stamps {
		for _, stamp := range stamps {
			far := uint32((uint64(stamp) + 1<<32 - uint64(there)) % (1 << 32))
			var w rewrite.Writer
			follow(t, &w, at(1, there, 0))
			goes(t, &w, at(2, stamp, 0), at(1, far, 0))
			// What began once has the highest stamp and Gap ahead of it.
			follow(t, &w, at(1, stamp, 0))
			begun := uint32((uint64(far) + 3000) % (1 << 32))
			goes(t, &w, at(1, stamp, 0), at(2, begun, 1))
			goes(t, &w, at(1, there, 0), at(2, uint32((uint64(begun)+1<<32-uint64(far))%(1<<32)), 1))
		}
	}
}

func TestPicturesGoByTheirDifferences(t *testing.T) {
	for _, there := range pictures {
		for picture := range 1 << 16 {
			far := uint16((picture + 1<<16 - int(there)) % (1 << 15))
			var w rewrite.Writer
			follow(t, &w, at(1, 0, there))
			goes(t, &w, at(2, 0, uint16(picture)), at(1, 0, far))
			follow(t, &w, at(1, 0, uint16(picture)))
			begun := uint16((int(far) + 1) % (1 << 15))
			goes(t, &w, at(1, 0, uint16(picture)), at(2, 3000, begun))
			back := uint16((int(begun) + 1<<15 - int(far)) % (1 << 15))
			goes(t, &w, at(1, 0, there), at(2, 3000, back))
		}
	}
}

// Index, stamp and picture don't mix, wherever they are.
func TestEachNumberGoesByItself(t *testing.T) {
	var w rewrite.Writer
	w.Start(1 << 40)
	follow(t, &w, at(65_535, 1<<32-1, 32_767))
	goes(t, &w, at(65_536, 0, 0), at(1<<40+1, 1, 1))
	goes(t, &w, at(65_535, 5, 2), at(1<<40, 6, 3))
	goes(t, &w, at(1<<48-1, 1<<32-2, 32_766), at(1<<40+1<<48-65_536, 1<<32-1, 32_767))
	goes(t, &w, at(65_537, 1<<31, 1<<14), at(1<<40+2, 1<<31+1, 1<<14+1))
}

// The same packet has the same place, however often it goes out.
func TestThePlaceIsTheSameEachTime(t *testing.T) {
	var w rewrite.Writer
	w.Start(8)
	follow(t, &w, at(100, 1000, 10))
	for range 5 {
		for i := range int64(30) {
			goes(t, &w, at(100+i, 1000+90*uint32(i), 10+uint16(i)), at(8+i, 90*uint32(i), uint16(i)))
		}
		high(t, &w, 37)
	}
}

// A place above all numbers isn't told: the chapter names no number for it.
func TestAboveTheGreatestIndexThereIsNoPlace(t *testing.T) {
	for _, first := range indices {
		for _, there := range indices {
			for _, index := range indices {
				if first < 0 || there < 0 || index < there {
					continue
				}
				var w rewrite.Writer
				w.Start(first)
				follow(t, &w, at(there, 3, 3))
				if far := index - there; far > math.MaxInt64-first {
					refused(t, &w, at(index, 4, 4), api.ErrState)
					high(t, &w, -1)
				} else {
					goes(t, &w, at(index, 4, 4), at(first+far, 1, 1))
					high(t, &w, first+far)
				}
				goes(t, &w, at(there, 3, 3), at(first, 0, 0))
			}
		}
	}
}

// Behind the greatest index there is none: sources may be followed, but have no places.
func TestBehindTheGreatestIndex(t *testing.T) {
	var w rewrite.Writer
	w.Start(math.MaxInt64 - 1)
	follow(t, &w, at(0, 0, 0))
	goes(t, &w, at(0, 0, 0), at(math.MaxInt64-1, 0, 0))
	goes(t, &w, at(1, 9, 1), at(math.MaxInt64, 9, 1))
	refused(t, &w, at(2, 0, 0), api.ErrState)
	refused(t, &w, at(math.MaxInt64, 0, 0), api.ErrState)
	goes(t, &w, at(0, 0, 0), at(math.MaxInt64-1, 0, 0))
	for _, there := range indices {
		if there < 0 {
			continue
		}
		follow(t, &w, at(there, 0, 0))
		for _, index := range indices {
			want := api.ErrState
			if index >= 0 && index < there {
				want = api.ErrOld
			}
			refused(t, &w, at(index, 0, 0), want)
		}
		high(t, &w, math.MaxInt64)
	}
}

// P22.3: High.

func TestHighIsTheHighestThatWentOut(t *testing.T) {
	var w rewrite.Writer
	high(t, &w, -1)
	w.Start(50)
	high(t, &w, -1)
	follow(t, &w, at(10, 0, 0))
	high(t, &w, -1)
	for _, c := range []struct{ index, high int64 }{{9, -1}, {12, 52}, {11, 52}, {12, 52}, {10, 52}, {13, 53}, {-1, 53}, {9, 53}, {1010, 1050}, {14, 1050}} {
		w.Map(at(c.index, 0, 0))
		high(t, &w, c.high)
	}
	follow(t, &w, at(7, 0, 0))
	high(t, &w, 1050)
	w.Map(at(8, 0, 0))
	high(t, &w, 1052)
	w.Map(at(7, 0, 0))
	high(t, &w, 1052)
}

// The index 0 may be the highest.
func TestHighOfZero(t *testing.T) {
	var w rewrite.Writer
	follow(t, &w, at(33, 5, 5))
	goes(t, &w, at(33, 5, 5), at(0, 0, 0))
	high(t, &w, 0)
}

// Of all orders of four packets: stamp and picture are those of the highest, not of the last, and not the greatest ones.
func TestWhatGoesWithTheHighest(t *testing.T) {
	packets := []api.Mapped{at(20, 5000, 70), at(21, 9000, 90), at(22, 7000, 60), at(23, 6000, 80)}
	for code := range 4 * 4 * 4 * 4 {
		var w rewrite.Writer
		follow(t, &w, packets[0])
		top := packets[0]
		for c := range 4 {
			x := packets[code>>(2*c)&3]
			if x.Index >= top.Index {
				top = x
			}
			goes(t, &w, x, at(x.Index-20, x.Stamp-5000, (x.Picture-70)&32767))
		}
		high(t, &w, top.Index-20)
		follow(t, &w, at(2, 50, 7))
		goes(t, &w, at(2, 50, 7), at(top.Index-19, top.Stamp-2000, (top.Picture-69)&32767))
	}
}

// Of the highest index, where it went out more than once, the last time counts; of a lower one none does.
func TestTheLastTimeOfTheHighestCounts(t *testing.T) {
	for _, a := range stamps {
		for _, b := range stamps {
			var w rewrite.Writer
			follow(t, &w, at(1, 0, 0))
			goes(t, &w, at(5, a, 10), at(4, a, 10))
			goes(t, &w, at(5, b, 4), at(4, b, 4))
			goes(t, &w, at(4, 777, 30), at(3, 777, 30))
			follow(t, &w, at(0, 0, 0))
			goes(t, &w, at(0, 0, 0), at(5, b+3000, 5))
		}
	}
}

// Of nil.

func TestOfNil(t *testing.T) {
	var w *rewrite.Writer
	for _, index := range indices {
		w.Start(index)
		if e := w.Follow(at(index, 1, 1)); e != api.ErrState {
			t.Fatalf("Follow(%d): %d", index, e)
		}
		if y, e := w.Map(at(index, 1, 1)); y != (api.Mapped{}) || e != api.ErrState {
			t.Fatalf("Map(%d): %+v, %d", index, y, e)
		}
		high(t, w, -1)
	}
}

// P22.4: what follows.

// Of one source, in whatever order its packets come: places are as far from each other as the indices there.
func TestOneSourcesPlacesHaveItsOrderAndGaps(t *testing.T) {
	for seed := range int64(200) {
		rnd := rand.New(rand.NewSource(seed))
		var w rewrite.Writer
		w.Start(rnd.Int63n(1 << 40))
		for range 5 {
			there := at(rnd.Int63n(1<<47), rnd.Uint32(), uint16(rnd.Uint32()))
			follow(t, &w, there)
			var came, went []api.Mapped
			for range 40 {
				x := at(there.Index+rnd.Int63n(1+rnd.Int63n(5000)), rnd.Uint32(), uint16(rnd.Uint32()))
				y, e := w.Map(x)
				if e != api.OK {
					t.Fatalf("Map(%+v): %d", x, e)
				}
				came, went = append(came, x), append(went, y)
			}
			for i := range came {
				for j := range came {
					apart := went[i].Index-went[j].Index == came[i].Index-came[j].Index &&
						went[i].Stamp-went[j].Stamp == came[i].Stamp-came[j].Stamp &&
						(went[i].Picture-went[j].Picture)%32768 == (came[i].Picture-came[j].Picture)%32768
					if !apart || went[i].Picture > 32767 {
						t.Fatalf("%+v and %+v become %+v and %+v", came[i], came[j], went[i], went[j])
					}
				}
			}
		}
	}
}

// Behind each Follow, even of the same source, and of indices below those that were: all places are above all that were.
func TestBehindFollowAllIsAbove(t *testing.T) {
	for seed := range int64(200) {
		rnd := rand.New(rand.NewSource(seed))
		var w rewrite.Writer
		was := int64(-1)
		for range 30 {
			there := rnd.Int63n(1 + rnd.Int63n(1000))
			follow(t, &w, at(there, rnd.Uint32(), 0))
			top, least := was, int64(math.MaxInt64)
			for range rnd.Intn(20) {
				y, e := w.Map(at(there+rnd.Int63n(30), 0, 0))
				if e != api.OK || y.Index <= was {
					t.Fatalf("behind %d: %+v, %d", was, y, e)
				}
				top, least = max(top, y.Index), min(least, y.Index)
			}
			y, e := w.Map(at(there, 0, 0))
			if e != api.OK || y.Index != was+1 || least < y.Index {
				t.Fatalf("behind %d the first place is %+v, %d; the least of the others is %d", was, y, e, least)
			}
			was = max(top, y.Index)
			high(t, &w, was)
		}
	}
}

// All held against the model.

func TestAllShortRuns(t *testing.T) {
	acts := []func(t *testing.T, b both){
		func(t *testing.T, b both) { b.start(t, 6) },
		func(t *testing.T, b both) { b.start(t, -1) },
		func(t *testing.T, b both) { b.follow(t, at(0, 0, 0)) },
		func(t *testing.T, b both) { b.follow(t, at(7, 1<<32-1, 65_535)) },
		func(t *testing.T, b both) { b.follow(t, at(-1, 1, 1)) },
		func(t *testing.T, b both) { b.place(t, at(6, 3, 3)) },
		func(t *testing.T, b both) { b.place(t, at(7, 1<<31, 1<<14)) },
		func(t *testing.T, b both) { b.place(t, at(9, 90, 1)) },
		func(t *testing.T, b both) { b.place(t, at(9, 1<<32-90, 32_767)) },
		func(t *testing.T, b both) { b.place(t, at(-1, 0, 0)) },
		func(t *testing.T, b both) { b.place(t, at(math.MaxInt64, 5, 5)) },
	}
	for code := range 11 * 11 * 11 * 11 {
		b := newBoth(t)
		for c := code; c > 0; c /= 11 {
			acts[c%11](t, b)
		}
	}
}

func TestRunsByChance(t *testing.T) {
	for seed := range int64(400) {
		rnd := rand.New(rand.NewSource(seed))
		b := newBoth(t)
		b.start(t, rnd.Int63n(1<<rnd.Intn(63)+1)-1)
		near := int64(0)
		for range 250 {
			x := at(near+rnd.Int63n(1+rnd.Int63n(60))-5, rnd.Uint32(), uint16(rnd.Uint32()))
			switch rnd.Intn(30) {
			case 0, 1:
				near = rnd.Int63n(1 << rnd.Intn(63))
				b.follow(t, at(near, rnd.Uint32(), uint16(rnd.Uint32())))
			case 2:
				b.follow(t, x)
			case 3:
				b.start(t, rnd.Int63())
			case 4:
				b.place(t, at(indices[rnd.Intn(len(indices))], stamps[rnd.Intn(len(stamps))], pictures[rnd.Intn(len(pictures))]))
			default:
				b.place(t, x)
			}
		}
	}
}

// Rule 5: what one does is none of another's, even if that began as a copy.
func TestWritersAreNotOne(t *testing.T) {
	var a, b rewrite.Writer
	a.Start(10)
	follow(t, &a, at(3, 3, 3))
	goes(t, &a, at(4, 3, 3), at(11, 0, 0))
	refused(t, &b, at(4, 3, 3), api.ErrState)
	high(t, &b, -1)
	c := a
	follow(t, &c, at(100, 0, 0))
	goes(t, &c, at(150, 0, 0), at(62, 3000, 1))
	high(t, &a, 11)
	goes(t, &a, at(5, 3, 3), at(12, 0, 0))
	high(t, &c, 62)
}

// Rule 6: the same done to two makes the same.
func TestTheSameDoneMakesTheSame(t *testing.T) {
	rnd := rand.New(rand.NewSource(22))
	var a, b rewrite.Writer
	for range 20_000 {
		x := at(rnd.Int63n(200)-5, rnd.Uint32(), uint16(rnd.Uint32()))
		if rnd.Intn(20) == 0 {
			if d, e := a.Follow(x), b.Follow(x); d != e {
				t.Fatalf("Follow(%+v): %d and %d", x, d, e)
			}
		}
		y, d := a.Map(x)
		if z, e := b.Map(x); y != z || d != e || a.High() != b.High() {
			t.Fatalf("Map(%+v): %+v, %d and %+v, %d", x, y, d, z, e)
		}
	}
}

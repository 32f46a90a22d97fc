package losses_test

import (
	"math"
	"math/rand"
	"runtime"
	"slices"
	"testing"

	"tenaille/api"
	"tenaille/losses"
	"tenaille/rtcp"
)

// bounds: ticks and pauses at the edges of what they can be.
var bounds = []int64{math.MinInt64, math.MinInt64 + 1, -1 << 40, -1, 0, 1, 2, 10, 1 << 31, 1 << 40, math.MaxInt64 - 1, math.MaxInt64}

// run is the numbers from a to b.
func run(a, b int64) []int64 {
	var all []int64
	for i := a; i <= b; i++ {
		all = append(all, i)
	}
	return all
}

func expect(t *testing.T, k *losses.Keeper, want ...int64) {
	t.Helper()
	if got := k.Missing(); !slices.Equal(got, want) {
		t.Fatalf("missing %v; want %v", got, want)
	}
}

func expectAsk(t *testing.T, k *losses.Keeper, tick int64, want ...api.Loss) {
	t.Helper()
	if got := k.Ask(tick); !slices.Equal(got, want) {
		t.Fatalf("ask at %d: %v; want %v", tick, got, want)
	}
}

// missing is a keeper to which from first on all came, up to the one behind the last of the list, but for those of the list.
func missing(t *testing.T, pause, tick, first int64, list ...int64) *losses.Keeper {
	t.Helper()
	k := losses.New(pause)
	for i := first; i <= list[len(list)-1]+1; i++ {
		if !slices.Contains(list, i) {
			k.Came(i, tick)
		}
	}
	expect(t, k, list...)
	return k
}

func TestTheChaptersExample(t *testing.T) {
	k := losses.New(10)
	k.Came(5, 1)
	k.Came(8, 1)
	expect(t, k, 6, 7)
	expectAsk(t, k, 1, api.Loss{Seq: 6, Bits: 1})
	expectAsk(t, k, 1)
	k.Came(7, 1)
	expect(t, k, 6)
}

// P20.1: New.

func TestNewMissesNothing(t *testing.T) {
	for _, pause := range bounds {
		k := losses.New(pause)
		if k == nil {
			t.Fatalf("New(%d) is nil", pause)
		}
		expect(t, k)
		for _, tick := range bounds {
			expectAsk(t, k, tick)
		}
	}
}

func TestPauseIsAtLeastOne(t *testing.T) {
	for _, pause := range []int64{math.MinInt64, -65536, -1, 0, 1} {
		k := missing(t, pause, 7, 0, 1)
		expectAsk(t, k, 7, api.Loss{Seq: 1})
		expectAsk(t, k, 7)
		expectAsk(t, k, 8, api.Loss{Seq: 1})
		expectAsk(t, k, 8)
		expectAsk(t, k, 9, api.Loss{Seq: 1})
	}
}

func TestKeepersAreNotOne(t *testing.T) {
	a, b := losses.New(1), losses.New(1)
	a.Came(0, 0)
	a.Came(2, 0)
	expect(t, b)
	b.Came(5, 0)
	expect(t, a, 1)
	expectAsk(t, b, 9)
}

// P20.1: of nil.

func TestOfNil(t *testing.T) {
	var k *losses.Keeper
	for _, n := range bounds {
		k.Came(n, n)
		k.Came(n, 0)
		if l := k.Missing(); len(l) != 0 {
			t.Errorf("missing %v", l)
		}
		if l := k.Ask(n); len(l) != 0 {
			t.Errorf("ask at %d: %v", n, l)
		}
	}
}

// P20.1: Came, Missing.

// Whichever is the first one, nothing is missed ahead of it.
func TestTheFirstIsTheHighest(t *testing.T) {
	for _, i := range []int64{0, 1, 2, 40, 65535, 65536, 1 << 32, 1<<40 - 1, 1 << 40, 1<<40 + 1, 1 << 48, math.MaxInt64 - 3} {
		k := losses.New(1)
		k.Came(i, 5)
		expect(t, k)
		k.Came(i+1, 5)
		expect(t, k)
		k.Came(i+3, 5)
		expect(t, k, i+2)
	}
	k := losses.New(1)
	k.Came(math.MaxInt64, 5)
	expect(t, k)
	k.Came(math.MaxInt64-2, 5)
	expect(t, k)
}

func TestBelowZeroNothingIsDone(t *testing.T) {
	for _, i := range []int64{-1, -2, -65536, -1 << 40, math.MinInt64 + 1, math.MinInt64} {
		k := losses.New(1)
		k.Came(i, 0)
		k.Came(3, 0)
		expect(t, k)
		k.Came(i, 0)
		k.Came(5, 0)
		expect(t, k, 4)
		k.Came(i, 0)
		expect(t, k, 4)
		k.Came(7, 0)
		expect(t, k, 4, 6)
	}
}

func TestTooFarAboveNothingIsDone(t *testing.T) {
	for _, high := range []int64{0, 1, 9, 1 << 32, 1 << 48, math.MaxInt64 - 1<<40 - 2} {
		for _, far := range []int64{1<<40 + 1, 1<<40 + 2, 1 << 41, 1 << 62, math.MaxInt64} {
			if far > math.MaxInt64-high {
				continue
			}
			k := losses.New(1)
			k.Came(high, 0)
			k.Came(high+far, 0)
			expect(t, k)
			// The highest one is what it was.
			k.Came(high+2, 0)
			expect(t, k, high+1)
			if far < math.MaxInt64-high-2 {
				k.Came(high+2+far, 0)
				expect(t, k, high+1)
			}
		}
	}
}

func TestAsFarAboveAsMayBe(t *testing.T) {
	for _, high := range []int64{0, 1, 9, 1 << 32, 1 << 48, math.MaxInt64 - 1<<40} {
		for _, far := range []int64{1 << 40, 1<<40 - 1, 1 << 39, 1 << 33, 1 << 32} {
			k := losses.New(1)
			k.Came(high, 0)
			k.Came(high+far, 0)
			expect(t, k, run(high+far-32, high+far-1)...)
			if high < 1<<60 {
				k.Came(high+far+2, 0)
				expect(t, k, append(run(high+far-31, high+far-1), high+far+1)...)
			}
		}
	}
}

func TestAllBetweenAreMissed(t *testing.T) {
	for _, high := range []int64{0, 1, 65520, 1 << 40, math.MaxInt64 - 70} {
		for far := int64(1); far <= 70; far++ {
			k := losses.New(1)
			k.Came(high, 0)
			k.Came(high+far, 0)
			expect(t, k, run(max(high+1, high+far-32), high+far-1)...)
		}
	}
}

func TestTheLeastAreForgotten(t *testing.T) {
	for held := int64(0); held <= 32; held++ {
		for gap := int64(0); gap <= 36; gap++ {
			b := newBoth(1)
			b.came(t, 10, 0)
			b.came(t, 11+held, 0)
			b.came(t, 12+held, 0)
			b.came(t, 13+held+gap, 0)
			want := append(run(11, 10+held), run(13+held, 12+held+gap)...)
			expect(t, b.k, want[max(0, len(want)-32):]...)
			b.ask(t, 0)
			b.ask(t, 1)
		}
	}
}

// What was asked for meanwhile is forgotten as well, and who stays is asked for no sooner.
func TestTheLeastAreForgottenAsked(t *testing.T) {
	k := missing(t, 10, 0, 0, run(1, 32)...)
	expectAsk(t, k, 5, api.Loss{Seq: 1, Bits: 65535}, api.Loss{Seq: 18, Bits: 1<<14 - 1})
	k.Came(36, 6)
	expect(t, k, append(run(3, 32), 34, 35)...)
	expectAsk(t, k, 6, api.Loss{Seq: 34, Bits: 1})
	expectAsk(t, k, 14)
	expectAsk(t, k, 15, api.Loss{Seq: 3, Bits: 65535}, api.Loss{Seq: 20, Bits: 1<<12 - 1})
}

// It is how many are missed then that counts, not how many there were.
func TestNoneIsForgottenWhereOthersCame(t *testing.T) {
	k := missing(t, 1, 0, 0, run(1, 32)...)
	k.Came(4, 0)
	k.Came(32, 0)
	k.Came(36, 0)
	expect(t, k, append(append(run(1, 3), run(5, 31)...), 34, 35)...)
	k.Came(38, 0)
	expect(t, k, append(append(run(2, 3), run(5, 31)...), 34, 35, 37)...)
}

func TestForgottenStayForgotten(t *testing.T) {
	k := losses.New(1)
	k.Came(0, 0)
	k.Came(100, 0)
	expect(t, k, run(68, 99)...)
	for i := int64(0); i <= 67; i++ {
		k.Came(i, 0)
		expect(t, k, run(68, 99)...)
	}
	k.Came(99, 0)
	expect(t, k, run(68, 98)...)
}

func TestWhatCameIsNotMissed(t *testing.T) {
	for _, late := range run(0, 40) {
		k := losses.New(1)
		k.Came(3, 0)
		k.Came(30, 0)
		var want []int64
		for _, i := range run(4, 29) {
			if i != late {
				want = append(want, i)
			}
		}
		if late > 30 {
			want = append(want, run(31, late-1)...)
			want = want[max(0, len(want)-32):]
		}
		k.Came(late, 0)
		expect(t, k, want...)
		// Once more it turns nothing.
		k.Came(late, 0)
		expect(t, k, want...)
	}
}

func TestWhatCameIsNotAskedFor(t *testing.T) {
	k := missing(t, 10, 0, 0, 3, 4, 5, 9)
	k.Came(4, 0)
	expectAsk(t, k, 0, api.Loss{Seq: 3, Bits: 1<<1 | 1<<5})
	k.Came(3, 1)
	expectAsk(t, k, 10, api.Loss{Seq: 5, Bits: 1 << 3})
	k.Came(5, 11)
	k.Came(9, 11)
	expectAsk(t, k, 20)
	expect(t, k)
}

// What came isn't the highest one, if it is below that.
func TestTheHighestStays(t *testing.T) {
	k := losses.New(1)
	k.Came(50, 0)
	k.Came(7, 0)
	expect(t, k)
	k.Came(0, 0)
	k.Came(50, 0)
	k.Came(49, 0)
	k.Came(52, 0)
	expect(t, k, 51)
}

// The missed ones of the tick are asked for at it, none of them ahead of it.
func TestFromThatTickOn(t *testing.T) {
	for _, tick := range bounds {
		k := losses.New(1)
		k.Came(1, 0)
		k.Came(3, tick)
		if tick > math.MinInt64 {
			expectAsk(t, k, tick-1)
			expectAsk(t, k, math.MinInt64)
			expect(t, k, 2)
		}
		expectAsk(t, k, tick, api.Loss{Seq: 2})
		k = losses.New(1)
		k.Came(1, 0)
		k.Came(3, tick)
		expectAsk(t, k, math.MaxInt64, api.Loss{Seq: 2})
	}
}

// Of each it is its own tick, and no other packet's.
func TestEachHasATickOfItsOwn(t *testing.T) {
	k := losses.New(10)
	k.Came(0, 100)
	k.Came(2, 30)
	k.Came(4, 20)
	k.Came(6, 25)
	k.Came(6, 0)
	expectAsk(t, k, 19)
	expectAsk(t, k, 20, api.Loss{Seq: 3})
	expectAsk(t, k, 29, api.Loss{Seq: 5})
	expectAsk(t, k, 30, api.Loss{Seq: 1, Bits: 1 << 1})
	expectAsk(t, k, 39, api.Loss{Seq: 5})
	expectAsk(t, k, 40, api.Loss{Seq: 1, Bits: 1 << 1})
	expect(t, k, 1, 5)
}

// P20.2: Ask.

func TestAskThreeTimes(t *testing.T) {
	for _, pause := range []int64{1, 2, 10, 1000, 1 << 40} {
		k := missing(t, pause, 50, 0, 6, 7)
		want := api.Loss{Seq: 6, Bits: 1}
		for try := range int64(3) {
			tick := 50 + try*pause
			expect(t, k, 6, 7)
			expectAsk(t, k, tick-1)
			expectAsk(t, k, tick, want)
			expectAsk(t, k, tick)
			expectAsk(t, k, 0)
		}
		expect(t, k)
		expectAsk(t, k, math.MaxInt64)
		// Who was forgotten isn't missed again.
		k.Came(6, 0)
		k.Came(10, 0)
		expect(t, k, 9)
	}
}

// The pause is from the asking on, not from when it could have been asked for.
func TestThePauseIsFromTheAskingOn(t *testing.T) {
	k := missing(t, 10, 0, 0, 1)
	expectAsk(t, k, 17, api.Loss{Seq: 1})
	expectAsk(t, k, 20)
	expectAsk(t, k, 26)
	expectAsk(t, k, 28, api.Loss{Seq: 1})
	expectAsk(t, k, 37)
	expectAsk(t, k, 38, api.Loss{Seq: 1})
	expect(t, k)
}

// A tick and a pause may be above all ticks: then nothing is asked for any more.
func TestPausesWithoutAnEnd(t *testing.T) {
	for _, tick := range bounds {
		for _, pause := range bounds {
			b := newBoth(pause)
			b.came(t, 4, tick)
			b.came(t, 6, tick)
			b.ask(t, tick)
			for _, next := range bounds {
				b.ask(t, next)
			}
			b.ask(t, tick)
			for _, next := range slices.Backward(bounds) {
				b.ask(t, next)
			}
		}
	}
	k := missing(t, math.MaxInt64, math.MinInt64, 0, 1)
	expectAsk(t, k, math.MinInt64, api.Loss{Seq: 1})
	expectAsk(t, k, -2)
	expectAsk(t, k, -1, api.Loss{Seq: 1})
	expectAsk(t, k, math.MaxInt64-2)
	expectAsk(t, k, math.MaxInt64-1, api.Loss{Seq: 1})
	k = missing(t, 1, math.MaxInt64, 0, 1)
	expectAsk(t, k, math.MaxInt64, api.Loss{Seq: 1})
	expectAsk(t, k, math.MaxInt64)
	expectAsk(t, k, math.MinInt64)
	expect(t, k, 1)
}

// How a loss and its bits tell what is missed.
func TestLossesOfSequenceNumbers(t *testing.T) {
	for far := int64(1); far <= 40; far++ {
		k := missing(t, 1, 0, 0, 3, 3+far)
		if far <= 16 {
			expectAsk(t, k, 0, api.Loss{Seq: 3, Bits: 1 << (far - 1)})
		} else {
			expectAsk(t, k, 0, api.Loss{Seq: 3}, api.Loss{Seq: uint16(3 + far)})
		}
	}
	k := missing(t, 1, 0, 0, run(1, 32)...)
	expectAsk(t, k, 0, api.Loss{Seq: 1, Bits: 65535}, api.Loss{Seq: 18, Bits: 1<<14 - 1})
}

// They rise by indices, not by sequence numbers.
func TestLossesAroundTheTurn(t *testing.T) {
	k := missing(t, 10, 0, 65000, 65500, 65534, 65536, 65540, 65600)
	expectAsk(t, k, 0, api.Loss{Seq: 65500}, api.Loss{Seq: 65534, Bits: 1<<1 | 1<<5}, api.Loss{Seq: 64})
	k = losses.New(1)
	k.Came(1<<48-3, 0)
	k.Came(1<<48+2, 0)
	expectAsk(t, k, 0, api.Loss{Seq: 65534, Bits: 7})
	k = losses.New(1)
	k.Came(math.MaxInt64-3, 0)
	k.Came(math.MaxInt64, 0)
	expectAsk(t, k, 0, api.Loss{Seq: 65533, Bits: 1})
}

// Packets a turn or more from each other have the same numbers.
func TestLossesOfTheSameNumbers(t *testing.T) {
	k := missing(t, 10, 0, 0, 5, 65536+5)
	expectAsk(t, k, 0, api.Loss{Seq: 5}, api.Loss{Seq: 5})
	k = missing(t, 10, 0, 0, 5, 6, 65536+6)
	expectAsk(t, k, 0, api.Loss{Seq: 5, Bits: 1})
	expectAsk(t, k, 9)
	expectAsk(t, k, 10, api.Loss{Seq: 5, Bits: 1})
	expectAsk(t, k, 20, api.Loss{Seq: 5, Bits: 1})
	expect(t, k)
}

// apart is n indices, each so far behind the one ahead.
func apart(first, far int64, n int) []int64 {
	var all []int64
	for at := range int64(n) {
		all = append(all, first+at*far)
	}
	return all
}

// single is losses of numbers that stand alone.
func single(list []int64) []api.Loss {
	var all []api.Loss
	for _, i := range list {
		all = append(all, api.Loss{Seq: uint16(i)})
	}
	return all
}

// What is beyond the sixteenth loss isn't asked: it may be, at the same tick still, and three times.
func TestSixteenLosses(t *testing.T) {
	for n := 15; n <= 32; n++ {
		list := apart(5, 17, n)
		k := missing(t, 10, 0, 0, list...)
		first, rest := list[:min(n, 16)], list[min(n, 16):]
		for try := range int64(3) {
			expect(t, k, list...)
			expectAsk(t, k, 10*try, single(first)...)
			if try == 2 {
				expect(t, k, rest...)
			}
			expectAsk(t, k, 10*try, single(rest)...)
			expectAsk(t, k, 10*try)
		}
		expect(t, k)
	}
}

// What the losses beyond tell was not asked once more.
func TestBeyondSixteenIsNotCounted(t *testing.T) {
	list := apart(5, 17, 20)
	k := missing(t, 1, 0, 0, list...)
	expectAsk(t, k, 0, single(list[:16])...)
	expectAsk(t, k, 1, single(list[:16])...)
	expectAsk(t, k, 2, single(list[:16])...)
	expect(t, k, list[16:]...)
	expectAsk(t, k, 2, single(list[16:])...)
	expectAsk(t, k, 3, single(list[16:])...)
	expectAsk(t, k, 4, single(list[16:])...)
	expect(t, k)
}

// The sixteenth loss tells what its bits can; who is behind these isn't asked.
func TestTheSixteenthLossHasItsBits(t *testing.T) {
	list := append(apart(5, 17, 16), 5+15*17+1, 5+15*17+16, 5+15*17+17, 5+15*17+18, 5+15*17+40)
	k := missing(t, 1, 0, 0, list...)
	want := single(list[:16])
	want[15].Bits = 1<<15 | 1
	expectAsk(t, k, 0, want...)
	expectAsk(t, k, 0, api.Loss{Seq: 5 + 15*17 + 17, Bits: 1}, api.Loss{Seq: 5 + 15*17 + 40})
	expectAsk(t, k, 1, want...)
	expectAsk(t, k, 2, want...)
	expect(t, k, list[18:]...)
}

// A number that an earlier loss tells as well isn't asked for by that.
func TestBeyondSixteenOfTheSameNumber(t *testing.T) {
	list := append(apart(5, 17, 16), 65536+5, 65536+5+17)
	k := missing(t, 10, 0, 0, list...)
	expectAsk(t, k, 0, single(list[:16])...)
	expectAsk(t, k, 0, single(list[16:])...)
	expectAsk(t, k, 0)
}

// Behind who is beyond the sixteenth loss nobody is asked, even if a bit of that loss could tell his number.
func TestBeyondSixteenNobodyIsAsked(t *testing.T) {
	list := append(apart(5, 17, 16), 300, 65536+5+15*17+4)
	k := missing(t, 10, 0, 0, list...)
	expectAsk(t, k, 0, single(list[:16])...)
	expectAsk(t, k, 0, single(list[16:])...)
	expectAsk(t, k, 0)
}

// Only those that may be asked for are among the sixteen.
func TestSixteenOfThoseThatMayBeAsked(t *testing.T) {
	k := losses.New(100)
	k.Came(0, 0)
	list := apart(5, 17, 32)
	for n, i := range list {
		// Every other one may be asked for only from the tick 50 on.
		k.Came(i+1, int64(n%2*50))
		for came := i + 2; came < i+17; came++ {
			k.Came(came, 0)
		}
		for came := max(0, i-20); came < i; came++ {
			if !slices.Contains(list, came) {
				k.Came(came, 0)
			}
		}
	}
	expect(t, k, list...)
	var early, late []int64
	for n, i := range list {
		if n%2 == 0 {
			early = append(early, i)
		} else {
			late = append(late, i)
		}
	}
	expectAsk(t, k, 0, single(early)...)
	expectAsk(t, k, 0)
	expectAsk(t, k, 49)
	expectAsk(t, k, 50, single(late)...)
	expectAsk(t, k, 99)
	expectAsk(t, k, 100, single(early)...)
	expectAsk(t, k, 150, single(late)...)
}

// The answers are new memory.
func TestAnswersAreNew(t *testing.T) {
	k, same := missing(t, 1, 0, 0, 3, 4, 30), missing(t, 1, 0, 0, 3, 4, 30)
	for tick := range int64(3) {
		for _, list := range [][]int64{k.Missing(), k.Missing()} {
			for at := range list {
				list[at] = -7
			}
			_ = append(list, -8)
		}
		expect(t, k, 3, 4, 30)
		l := k.Ask(tick)
		if !slices.Equal(l, same.Ask(tick)) {
			t.Fatalf("ask at %d: %v", tick, l)
		}
		clear(l)
		_ = append(l[:0], make([]api.Loss, cap(l))...)
	}
	l := missing(t, 1, 0, 0, 3, 30)
	a := l.Ask(0)
	b := l.Ask(1)
	clear(b)
	if !slices.Equal(a, []api.Loss{{Seq: 3}, {Seq: 30}}) {
		t.Errorf("an answer turned: %v", a)
	}
}

// Asking turns nothing where none may be asked for, and Missing never.
func TestAskWithoutAnyTurnsNothing(t *testing.T) {
	k := missing(t, 5, 10, 0, 3, 4)
	for tick := int64(-20); tick < 10; tick++ {
		expectAsk(t, k, tick)
		expect(t, k, 3, 4)
	}
	for try := range int64(3) {
		expectAsk(t, k, 10+5*try, api.Loss{Seq: 3, Bits: 1})
	}
	expect(t, k)
}

// P20.1, P20.2, P20.4: by chance, against the model.

func TestByChance(t *testing.T) {
	for seed := range int64(400) {
		r := rand.New(rand.NewSource(seed))
		pause := r.Int63n(12) - 1
		b := newBoth(pause)
		tries, last := map[int64]int{}, map[int64]int64{}
		next, tick := r.Int63n(3)*65500, int64(0)
		for range 500 {
			switch r.Intn(8) {
			case 0:
				tick += r.Int63n(max(pause, 1) + 2)
			case 1, 2:
				checkAsked(t, b.ask(t, tick), tick, max(pause, 1), tries, last)
			case 3:
				b.came(t, next-r.Int63n(60), tick)
			case 4:
				next += r.Int63n(40)
				b.came(t, next, tick)
			default:
				next += 1 + r.Int63n(20)*r.Int63n(2)
				b.came(t, next, tick)
			}
			if n := len(b.k.Missing()); n > 32 {
				t.Fatalf("%d are missed", n)
			}
		}
	}
}

// checkAsked looks whether nothing is asked for more than three times, nor twice within a pause.
func checkAsked(t *testing.T, asked []int64, tick, pause int64, tries map[int64]int, last map[int64]int64) {
	t.Helper()
	for _, i := range asked {
		tries[i]++
		if tries[i] > 3 {
			t.Fatalf("%d is asked for %d times", i, tries[i])
		}
		if was, there := last[i]; there && tick-was < pause {
			t.Fatalf("%d is asked for at %d and %d", i, was, tick)
		}
		last[i] = tick
	}
}

// All runs of up to four acts.
func TestAllShortRuns(t *testing.T) {
	acts := []func(b *both){
		func(b *both) { b.came(t, 0, 0) },
		func(b *both) { b.came(t, 2, 1) },
		func(b *both) { b.came(t, 3, 0) },
		func(b *both) { b.came(t, 37, 2) },
		func(b *both) { b.came(t, 36, 0) },
		func(b *both) { b.came(t, -1, 0) },
		func(b *both) { b.ask(t, 0) },
		func(b *both) { b.ask(t, 1) },
		func(b *both) { b.ask(t, 3) },
	}
	var act func(done []int)
	act = func(done []int) {
		b := newBoth(2)
		for _, n := range done {
			acts[n](b)
		}
		if len(done) == 4 {
			return
		}
		for n := range acts {
			act(append(done[:len(done):len(done)], n))
		}
	}
	act(nil)
}

// P20.4: of those that nobody sends again, each is asked for three times, a pause apart.
func TestNothingIsAskedForMoreThanThreeTimes(t *testing.T) {
	k := losses.New(4)
	tries, last := map[uint16]int{}, map[uint16]int64{}
	for tick := range int64(20000) {
		if tick%5 != 3 {
			k.Came(tick, tick)
		}
		if n := len(k.Missing()); n > 32 {
			t.Fatalf("%d are missed", n)
		}
		for _, seq := range rtcp.Nacked(k.Ask(tick)) {
			tries[seq]++
			if was, there := last[seq]; there && tick-was < 4 {
				t.Fatalf("%d is asked for at %d and %d", seq, was, tick)
			}
			last[seq] = tick
		}
	}
	for i := int64(3); i < 19000; i += 5 {
		if n := tries[uint16(i)]; n != 3 {
			t.Fatalf("%d is asked for %d times", i, n)
		}
	}
	if len(tries) != 20000/5 {
		t.Fatalf("%d were asked for", len(tries))
	}
}

// What is forgotten isn't held.
func TestWhatIsForgottenIsNotHeld(t *testing.T) {
	k := losses.New(1)
	k.Came(0, 0)
	before := heap()
	for i := int64(1); i < 300000; i++ {
		k.Came(40*i, i)
		if i%3 == 0 {
			k.Ask(i)
		}
	}
	if after := heap(); after > before+64*1024 {
		t.Errorf("%d bytes are held", after-before)
	}
	expect(t, k, run(40*299999-32, 40*299999-1)...)
}

func heap() uint64 {
	runtime.GC()
	var s runtime.MemStats
	runtime.ReadMemStats(&s)
	return s.HeapAlloc
}

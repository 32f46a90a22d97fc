package ladder_test

import (
	"math"
	"math/rand"
	"testing"

	"tenaille/api"
	"tenaille/ladder"
)

// few: rungs that are met soon, of each kind there is: next to each other and apart, low and high, quick and slow.
var few = []api.Rungs{
	{Soft: 1, Hard: 2, Decay: 1}, {Soft: 1, Hard: 2, Decay: 3}, {Soft: 1, Hard: 5, Decay: 2}, {Soft: 2, Hard: 4, Decay: 10},
	{Soft: 3, Hard: 4, Decay: 2}, {Soft: 3, Hard: 9, Decay: 4}, {Soft: 999, Hard: 1000, Decay: 2}, {Soft: 1, Hard: 1000, Decay: 1},
}

// struck is a ladder with so many strikes.
func struck(t *testing.T, rungs api.Rungs, n int) *ladder.Ladder {
	t.Helper()
	l := ladder.New(rungs)
	if l == nil {
		t.Fatalf("New(%+v) is nil", rungs)
	}
	l.Strike(n)
	return l
}

func expect(t *testing.T, l *ladder.Ladder, state, strikes int) {
	t.Helper()
	if s, n := l.State(), l.Strikes(); s != state || n != strikes {
		t.Fatalf("state %d, %d strikes; want %d, %d", s, n, state, strikes)
	}
}

func tick(l *ladder.Ladder, n int) {
	for range n {
		l.Tick()
	}
}

func TestTheChaptersExample(t *testing.T) {
	l := struck(t, api.Rungs{Soft: 2, Hard: 4, Decay: 10}, 2)
	expect(t, l, api.Throttled, 2)
	tick(l, 10)
	expect(t, l, api.Good, 1)
	l.Strike(4)
	expect(t, l, api.Quarantine, 5)
	tick(l, 10_000)
	expect(t, l, api.Quarantine, 5)
}

// P21.1: New.

func TestWhichRungsMayBe(t *testing.T) {
	counts := []int{math.MinInt, -1000, -1, 0, 1, 2, 3, 10, 500, 998, 999, 1000, 1001, 1002, 1 << 32, math.MaxInt}
	decays := []int64{math.MinInt64, -1 << 32, -1, 0, 1, 2, 1000, 1001, 1 << 32, 1 << 40, math.MaxInt64}
	for _, soft := range counts {
		for _, hard := range counts {
			for _, decay := range decays {
				rungs := api.Rungs{Soft: soft, Hard: hard, Decay: decay}
				l := ladder.New(rungs)
				if may := soft >= 1 && hard > soft && hard <= 1000 && decay >= 1; may != (l != nil) {
					t.Fatalf("New(%+v): nil is %v", rungs, l == nil)
				}
				if l != nil {
					expect(t, l, api.Good, 0)
				}
			}
		}
	}
}

// P21.1: State, Strikes.

func TestEachNumberOfStrikes(t *testing.T) {
	for _, rungs := range few {
		one := ladder.New(rungs)
		for n := 1; n <= 1000; n++ {
			want := api.Good
			if n >= rungs.Soft {
				want = api.Throttled
			}
			if n >= rungs.Hard {
				want = api.Quarantine
			}
			one.Strike(1)
			expect(t, one, want, n)
			expect(t, struck(t, rungs, n), want, n)
		}
	}
}

func TestAllRungsAtTheirEdges(t *testing.T) {
	for soft := 1; soft <= 999; soft += 1 + soft/10 {
		for hard := soft + 1; hard <= 1000; hard += 1 + (hard-soft)/4 {
			rungs := api.Rungs{Soft: soft, Hard: hard, Decay: 1}
			expect(t, struck(t, rungs, soft-1), api.Good, soft-1)
			expect(t, struck(t, rungs, soft), api.Throttled, soft)
			expect(t, struck(t, rungs, hard-1), api.Throttled, hard-1)
			expect(t, struck(t, rungs, hard), api.Quarantine, hard)
		}
	}
}

// What is asked turns nothing.
func TestAskingTurnsNothing(t *testing.T) {
	l := struck(t, api.Rungs{Soft: 2, Hard: 4, Decay: 3}, 2)
	for range 10 {
		expect(t, l, api.Throttled, 2)
		l.Copy()
	}
	tick(l, 2)
	expect(t, l, api.Throttled, 2)
	l.Tick()
	expect(t, l, api.Good, 1)
}

// Of nil.

func TestOfNil(t *testing.T) {
	var l *ladder.Ladder
	for _, n := range []int{math.MinInt, -1, 0, 1, 1000, math.MaxInt} {
		expect(t, l, api.Quarantine, 0)
		l.Strike(n)
		l.Tick()
		expect(t, l, api.Quarantine, 0)
		l.Reset()
		expect(t, l, api.Quarantine, 0)
		if l.Copy() != nil {
			t.Fatal("a copy of nil")
		}
	}
}

// What New refuses may be asked as well.
func TestOfRefusedRungs(t *testing.T) {
	for _, rungs := range []api.Rungs{{}, {Soft: 1, Hard: 1, Decay: 1}, {Soft: 2, Hard: 1, Decay: 1}, {Soft: 1, Hard: 2}} {
		l := ladder.New(rungs)
		l.Strike(3)
		l.Tick()
		l.Reset()
		expect(t, l, api.Quarantine, 0)
	}
}

// P21.2: Strike.

func TestBelowOneNoStrike(t *testing.T) {
	for _, n := range []int{0, -1, -2, -1000, -1 << 32, math.MinInt + 1, math.MinInt} {
		for _, had := range []int{0, 1, 2, 3, 4, 5, 999, 1000} {
			b := newBoth(t, api.Rungs{Soft: 2, Hard: 5, Decay: 3})
			b.strike(t, had)
			b.tick(t)
			b.tick(t)
			// It doesn't put off what a tick takes away, either.
			b.strike(t, n)
			b.tick(t)
			for range 9 {
				b.strike(t, n)
				b.tick(t)
			}
		}
	}
}

func TestAtMostAThousandStrikes(t *testing.T) {
	many := []int{1, 2, 499, 500, 999, 1000, 1001, 5000, 1 << 31, 1 << 32, math.MaxInt - 1000, math.MaxInt - 1, math.MaxInt}
	rungs := api.Rungs{Soft: 2, Hard: 1000, Decay: 1}
	for _, a := range many {
		for _, b := range many {
			l := struck(t, rungs, a)
			if n := l.Strikes(); n != min(a, 1000) {
				t.Fatalf("%d strikes: %d", a, n)
			}
			l.Strike(b)
			want := 1000
			if a < 1000 && b < 1000 {
				want = min(a+b, 1000)
			}
			if n := l.Strikes(); n != want {
				t.Fatalf("%d and %d strikes: %d; want %d", a, b, n, want)
			}
		}
	}
}

// In Quarantine, too, strikes are counted, and let none out of it.
func TestStrikesInQuarantine(t *testing.T) {
	l := struck(t, api.Rungs{Soft: 1, Hard: 3, Decay: 1}, 3)
	for n := 4; n <= 1003; n++ {
		l.Strike(1)
		expect(t, l, api.Quarantine, min(n, 1000))
		l.Tick()
		expect(t, l, api.Quarantine, min(n, 1000))
	}
	l.Strike(math.MaxInt)
	l.Strike(-1000)
	expect(t, l, api.Quarantine, 1000)
}

// P21.2: Tick.

func TestATickTakesAwayOneEachDecay(t *testing.T) {
	for decay := 1; decay <= 40; decay++ {
		l := struck(t, api.Rungs{Soft: 3, Hard: 7, Decay: int64(decay)}, 6)
		for n := 6; n > 0; n-- {
			state := api.Good
			if n >= 3 {
				state = api.Throttled
			}
			for range decay {
				expect(t, l, state, n)
				l.Tick()
			}
		}
		tick(l, 3*decay)
		expect(t, l, api.Good, 0)
	}
}

// From each number of strikes below Hard on, down to none.
func TestTicksFromAnyNumberOfStrikes(t *testing.T) {
	for n := range 1000 {
		b := newBoth(t, api.Rungs{Soft: 500, Hard: 1000, Decay: 2})
		b.strike(t, n)
		for range 2*n + 5 {
			b.tick(t)
		}
		expect(t, b.l, api.Good, 0)
	}
}

// With strikes Decay ticks are left again, whenever they come.
func TestAStrikePutsOffWhatTicksTakeAway(t *testing.T) {
	const decay = 6
	for before := range 4 * decay {
		for had := range 5 {
			l := struck(t, api.Rungs{Soft: 2, Hard: 100, Decay: decay}, had)
			tick(l, before)
			l.Strike(2)
			n := max(0, had-before/decay) + 2
			for range decay {
				expect(t, l, api.Throttled, n)
				l.Tick()
			}
			if l.Strikes() != n-1 {
				t.Fatalf("%d strikes, %d ticks: %d; want %d", had, before, l.Strikes(), n-1)
			}
		}
	}
}

// As long as strikes come soon enough, no tick takes one away.
func TestStrikesWithinDecay(t *testing.T) {
	l := ladder.New(api.Rungs{Soft: 5, Hard: 900, Decay: 4})
	for n := 1; n < 900; n++ {
		l.Strike(1)
		tick(l, 3)
		if l.Strikes() != n {
			t.Fatalf("%d strikes; want %d", l.Strikes(), n)
		}
	}
}

// As fast as they are taken away, they bring nobody to a rung.
func TestOneStrikeEachDecay(t *testing.T) {
	l := ladder.New(api.Rungs{Soft: 2, Hard: 3, Decay: 5})
	for range 1000 {
		l.Strike(1)
		expect(t, l, api.Good, 1)
		tick(l, 5)
		expect(t, l, api.Good, 0)
	}
}

func TestSlowDecay(t *testing.T) {
	for _, decay := range []int64{20_001, 1 << 31, 1 << 32, 1 << 40, math.MaxInt64} {
		l := struck(t, api.Rungs{Soft: 2, Hard: 9, Decay: decay}, 2)
		tick(l, 20_000)
		expect(t, l, api.Throttled, 2)
	}
	l := struck(t, api.Rungs{Soft: 2, Hard: 9, Decay: 70_000}, 2)
	tick(l, 69_999)
	expect(t, l, api.Throttled, 2)
	l.Tick()
	expect(t, l, api.Good, 1)
}

// P21.2: Reset.

// Behind a reset a ladder is as a new one, whatever was ahead of it.
func TestResetIsAsAtFirst(t *testing.T) {
	for _, rungs := range few {
		for _, n := range []int{0, 1, 2, 3, 4, 5, 8, 9, 998, 999, 1000, 5000} {
			for before := range 5 {
				b := newBoth(t, rungs)
				b.strike(t, n)
				for range before {
					b.tick(t)
				}
				b.reset(t)
				expect(t, b.l, api.Good, 0)
				b.tick(t)
				b.strike(t, 1)
				for range rungs.Decay + 1 {
					b.tick(t)
				}
				expect(t, b.l, api.Good, 0)
				b.strike(t, rungs.Soft)
				expect(t, b.l, api.Throttled, rungs.Soft)
				b.strike(t, rungs.Hard-rungs.Soft)
				expect(t, b.l, api.Quarantine, rungs.Hard)
				b.reset(t)
				b.reset(t)
				expect(t, b.l, api.Good, 0)
			}
		}
	}
}

// P21.3: Copy.

// From each standing on, a copy goes its own way.
func TestCopyIsAnotherOneLikeIt(t *testing.T) {
	for _, rungs := range few {
		for _, n := range []int{0, 1, 2, 3, 4, 8, 9, 998, 999, 1000} {
			for before := range 5 {
				b := newBoth(t, rungs)
				b.strike(t, n)
				for range before {
					b.tick(t)
				}
				ticked, striken, fresh, still := b.copied(t), b.copied(t), b.copied(t), b.copied(t)
				for range 2*rungs.Decay + 1 {
					ticked.tick(t)
				}
				striken.strike(t, rungs.Hard)
				fresh.reset(t)
				for _, other := range []both{b, still, striken, fresh, ticked} {
					other.compare(t)
				}
				for range 2*rungs.Decay + 1 {
					b.tick(t)
					still.tick(t)
					fresh.tick(t)
				}
				b.strike(t, 1)
				still.compare(t)
				ticked.strike(t, 1)
				striken.reset(t)
			}
		}
	}
}

// A copy has the rungs, and those of one ladder aren't another one's.
func TestLaddersAreNotOne(t *testing.T) {
	a := ladder.New(api.Rungs{Soft: 2, Hard: 4, Decay: 3})
	b := ladder.New(api.Rungs{Soft: 1, Hard: 9, Decay: 7})
	a.Strike(1)
	expect(t, b, api.Good, 0)
	b.Strike(4)
	tick(a, 3)
	expect(t, b, api.Throttled, 4)
	expect(t, a, api.Good, 0)
	c, d := a.Copy(), b.Copy()
	c.Strike(4)
	d.Strike(4)
	expect(t, c, api.Quarantine, 4)
	expect(t, d, api.Throttled, 8)
	expect(t, a, api.Good, 0)
	expect(t, b, api.Throttled, 4)
}

// P21.4: what follows.

func TestWithoutAStrikeItIsGood(t *testing.T) {
	for _, rungs := range few {
		l := ladder.New(rungs)
		for range 5000 {
			l.Tick()
			l.Strike(0)
			l.Strike(-1)
			expect(t, l, api.Good, 0)
			expect(t, l.Copy(), api.Good, 0)
		}
	}
}

func TestQuarantineIsLeftByAResetAlone(t *testing.T) {
	for _, rungs := range few {
		l := struck(t, rungs, rungs.Hard)
		for i := range 20_000 {
			expect(t, l, api.Quarantine, rungs.Hard)
			l.Tick()
			if i%100 == 0 {
				l.Strike(-i)
				l = l.Copy()
			}
		}
		expect(t, l, api.Quarantine, rungs.Hard)
		l.Reset()
		expect(t, l, api.Good, 0)
	}
}

// Of any ticks one behind the other, whatever strikes come between.
func TestHowManyAreTakenAway(t *testing.T) {
	const steps = 400
	for seed := range int64(40) {
		rnd := rand.New(rand.NewSource(seed))
		decay := 1 + rnd.Int63n(6)
		l := struck(t, api.Rungs{Soft: 500, Hard: 1000, Decay: decay}, 600)
		taken := []int64{0} // till each tick, in all
		for range steps {
			if rnd.Intn(int(decay)+3) == 0 {
				l.Strike(1 + rnd.Intn(2))
			}
			was := l.Strikes()
			l.Tick()
			taken = append(taken, taken[len(taken)-1]+int64(was-l.Strikes()))
		}
		for from := range taken {
			for to := from; to < len(taken); to++ {
				if n := taken[to] - taken[from]; n < 0 || n > int64(to-from)/decay+1 {
					t.Fatalf("%d are taken away in %d ticks, Decay %d", n, to-from, decay)
				}
			}
		}
	}
}

// All held against the model.

func TestAllShortRuns(t *testing.T) {
	acts := []func(b both) both{
		func(b both) both { b.tick(t); return b },
		func(b both) both { b.tick(t); b.tick(t); return b },
		func(b both) both { b.strike(t, 1); return b },
		func(b both) both { b.strike(t, 2); return b },
		func(b both) both { b.strike(t, 0); return b },
		func(b both) both { b.strike(t, 1000); return b },
		func(b both) both { b.reset(t); return b },
		func(b both) both { return b.copied(t) },
	}
	for _, rungs := range few {
		for code := range 8 * 8 * 8 * 8 * 8 {
			b := newBoth(t, rungs)
			for c := code; c > 0; c /= 8 {
				b = acts[c%8](b)
			}
		}
	}
}

func TestRunsByChance(t *testing.T) {
	for seed := range int64(400) {
		rnd := rand.New(rand.NewSource(seed))
		hard := 2 + rnd.Intn(1+rnd.Intn(999))
		rungs := api.Rungs{Soft: 1 + rnd.Intn(hard-1), Hard: hard, Decay: 1 + rnd.Int63n(1+rnd.Int63n(20))}
		b := newBoth(t, rungs)
		for range 1000 {
			switch rnd.Intn(40) {
			case 0:
				b.strike(t, 1+rnd.Intn(hard))
			case 1:
				b.strike(t, -rnd.Intn(3))
			case 2, 3, 4:
				b.strike(t, 1+rnd.Intn(1+hard/10))
			case 5:
				b = b.copied(t)
			case 6:
				if rnd.Intn(10) == 0 {
					b.reset(t)
				}
			default:
				b.tick(t)
			}
		}
	}
}

// Rule 6: the same done to two makes the same.
func TestTheSameDoneMakesTheSame(t *testing.T) {
	for _, rungs := range few {
		a, b := ladder.New(rungs), ladder.New(rungs)
		rnd := rand.New(rand.NewSource(9))
		for range 5000 {
			switch rnd.Intn(6) {
			case 0:
				n := rnd.Intn(3)
				a.Strike(n)
				b.Strike(n)
			case 1:
				if rnd.Intn(20) == 0 {
					a.Reset()
					b.Reset()
				}
			default:
				a.Tick()
				b.Tick()
			}
			expect(t, a, b.State(), b.Strikes())
		}
	}
}

package coalesce_test

import (
	"math"
	"math/rand"
	"testing"

	"tenaille/coalesce"
)

// edges: small numbers, and those at the edges of their kinds.
var edges = []int64{math.MinInt64, math.MinInt64 + 1, -1 << 62, -1<<32 - 1, -1 << 32, -1<<31 - 1, -1 << 31, -6, -5, -2, -1, 0, 1, 2, 4, 5, 6, 1<<31 - 1, 1 << 31, 1<<32 - 1, 1 << 32, 1 << 62, math.MaxInt64 - 1, math.MaxInt64}

// gate is one with an interval, to which acts were done.
func gate(t *testing.T, interval int64, acts ...act) *coalesce.Gate {
	t.Helper()
	g := coalesce.New(interval)
	if g == nil {
		t.Fatalf("New(%d) is nil", interval)
	}
	for _, a := range acts {
		do(g, a)
	}
	return g
}

// stands: is one asked for, and how many requests went out?
func stands(t *testing.T, g *coalesce.Gate, asked bool, sent int64) {
	t.Helper()
	if a, s := g.Asked(), g.Sent(); a != asked || s != sent {
		t.Fatalf("asked %v, sent %d; want %v, %d", a, s, asked, sent)
	}
}

func tells(t *testing.T, g *coalesce.Gate, a act, want bool) {
	t.Helper()
	if x := do(g, a); x != want {
		t.Fatalf("%+v tells %v; want %v", a, x, want)
	}
}

func TestTheChaptersExample(t *testing.T) {
	g := gate(t, 5, ask)
	tells(t, g, due(0), true)
	do(g, ask)
	tells(t, g, due(3), false)
	tells(t, g, due(5), true)
	tells(t, g, due(9), false)
	stands(t, g, false, 2)
}

// P24.1: New, Ask, Due, Asked.

func TestANewOneAsksNothing(t *testing.T) {
	for _, interval := range edges {
		g := gate(t, interval)
		stands(t, g, false, 0)
		for _, tick := range edges {
			tells(t, g, due(tick), false)
			stands(t, g, false, 0)
		}
	}
}

// The first request is due at each tick, be it below 0 or less than the interval.
func TestTheFirstRequest(t *testing.T) {
	for _, interval := range edges {
		for _, tick := range edges {
			g := gate(t, interval, ask)
			stands(t, g, true, 0)
			tells(t, g, due(tick), true)
			stands(t, g, false, 1)
			tells(t, g, due(tick), false)
			stands(t, g, false, 1)
		}
	}
}

// Neither a Due that told no, nor a picture that came, is a request: the interval isn't reckoned from it.
func TestWithoutAnyRequestNoIntervalHolds(t *testing.T) {
	for tick := int64(-12); tick <= 12; tick++ {
		g := gate(t, 10, due(tick), ask, came, due(tick), ask)
		tells(t, g, due(tick), true)
	}
}

// The second request, of each interval and all pairs of ticks.
func TestTheSecondRequest(t *testing.T) {
	for _, interval := range edges {
		for _, last := range edges {
			for _, tick := range edges {
				g, want := gate(t, interval, ask, due(last), ask), !earlier(tick, last, interval)
				tells(t, g, due(tick), want)
				if want {
					stands(t, g, false, 2)
				} else {
					stands(t, g, true, 1)
				}
			}
		}
	}
}

// The edge of each interval: one tick less isn't enough.
func TestTheEdgeOfTheInterval(t *testing.T) {
	for interval := int64(-3); interval <= 40; interval++ {
		for last := int64(-45); last <= 45; last++ {
			first := last + max(interval, 1)
			for tick := last - 3; tick <= first+3; tick++ {
				tells(t, gate(t, interval, ask, due(last), ask), due(tick), tick >= first)
			}
		}
	}
}

// An interval below 1 is 1: at each tick one, and no more.
func TestIntervalsBelowOne(t *testing.T) {
	for _, interval := range edges {
		if interval > 1 {
			continue
		}
		g := gate(t, interval)
		for tick := int64(-5); tick <= 5; tick++ {
			do(g, ask)
			tells(t, g, due(tick), true)
			do(g, ask)
			tells(t, g, due(tick), false)
			tells(t, g, due(tick-1), false)
		}
		stands(t, g, true, 11)
	}
}

// Asked many times it goes out once.
func TestManyAsksAreOne(t *testing.T) {
	g := gate(t, 4)
	for round := range int64(10) {
		for range 100 {
			do(g, ask)
			stands(t, g, true, round)
		}
		tells(t, g, due(4*round), true)
		stands(t, g, false, round+1)
		for tick := range int64(20) {
			tells(t, g, due(4*round+tick), false)
		}
	}
}

// What isn't due stays asked for, and turns nothing: the interval isn't begun anew.
func TestWhatIsNotDueTurnsNothing(t *testing.T) {
	g := gate(t, 10, ask, due(100), ask)
	was := *g
	for _, tick := range []int64{math.MinInt64, -100, 0, 90, 99, 100, 101, 105, 109} {
		tells(t, g, due(tick), false)
		stands(t, g, true, 1)
		if *g != was {
			t.Fatalf("%+v was %+v", *g, was)
		}
	}
	tells(t, g, due(110), true)
	stands(t, g, false, 2)
	was = *g
	for _, tick := range []int64{110, 111, 119, 120, 200, math.MaxInt64} {
		tells(t, g, due(tick), false)
		if *g != was {
			t.Fatalf("%+v was %+v", *g, was)
		}
	}
	do(g, ask)
	tells(t, g, due(119), false)
	tells(t, g, due(120), true)
}

// The interval is reckoned from when the last request went out, not from when it was asked for or when it could have gone out.
func TestTheIntervalIsFromTheLastRequest(t *testing.T) {
	g := gate(t, 5, ask, due(0), ask, due(2), due(7), ask)
	stands(t, g, true, 2)
	tells(t, g, due(10), false)
	tells(t, g, due(11), false)
	tells(t, g, due(12), true)
	do(g, ask)
	tells(t, g, due(16), false)
	tells(t, g, due(17), true)
	stands(t, g, false, 4)
}

// P24.2: Came, Sent.

func TestAWholePictureCame(t *testing.T) {
	g := gate(t, 5, came)
	stands(t, g, false, 0)
	do(g, ask)
	do(g, came)
	stands(t, g, false, 0)
	tells(t, g, due(3), false)
	do(g, ask)
	stands(t, g, true, 0)
	tells(t, g, due(3), true)
	stands(t, g, false, 1)
	// Behind a request it takes away what was asked for since, but neither the request nor its tick.
	do(g, came)
	do(g, ask)
	tells(t, g, due(7), false)
	do(g, came)
	stands(t, g, false, 1)
	tells(t, g, due(8), false)
	do(g, came)
	do(g, ask)
	stands(t, g, true, 1)
	tells(t, g, due(8), true)
	stands(t, g, false, 2)
}

func TestHowManyWentOut(t *testing.T) {
	g := gate(t, 3)
	for i := range int64(2000) {
		do(g, ask)
		tells(t, g, due(3*i), true)
		stands(t, g, false, i+1)
		do(g, ask)
		tells(t, g, due(3*i+2), false)
		do(g, came)
		stands(t, g, false, i+1)
	}
}

// What is asked turns nothing.
func TestAskingTurnsNothing(t *testing.T) {
	for _, acts := range [][]act{nil, {ask}, {ask, due(7)}, {ask, due(7), ask}} {
		g := gate(t, 3, acts...)
		was := *g
		for range 5 {
			g.Asked()
			g.Sent()
		}
		if *g != was {
			t.Fatalf("%+v was %+v", *g, was)
		}
	}
}

// Two gates don't turn each other.
func TestGatesApart(t *testing.T) {
	a, b := gate(t, 5), gate(t, 5)
	if a == b {
		t.Fatal("one gate")
	}
	do(a, ask)
	stands(t, b, false, 0)
	do(b, ask)
	tells(t, a, due(10), true)
	stands(t, b, true, 0)
	tells(t, b, due(11), true)
	do(a, ask)
	do(b, ask)
	tells(t, a, due(15), true)
	tells(t, b, due(15), false)
	tells(t, b, due(16), true)
	do(a, ask)
	do(b, ask)
	do(a, came)
	stands(t, a, false, 2)
	stands(t, b, true, 2)
}

// P24.3.

// most is how many of so many ticks may have a request: as many divided by the interval, rounded up, and one.
func most(ticks, interval int) int {
	return (ticks+interval-1)/interval + 1
}

// fewOf holds each stretch of ticks against how many requests it may have.
func fewOf(t *testing.T, out []bool, interval int) {
	t.Helper()
	for from := range out {
		n := 0
		for to := from; to < len(out); to++ {
			if out[to] {
				n++
			}
			if n > most(to+1-from, interval) {
				t.Fatalf("interval %d: %d requests from the tick %d to %d", interval, n, from, to)
			}
		}
	}
}

// Asked at each tick, exactly each interval's first tick has a request.
func TestAskedAtEachTick(t *testing.T) {
	for interval := 1; interval <= 20; interval++ {
		for _, begin := range []int64{0, 1, -100, 1 << 40, math.MinInt64, math.MaxInt64 - 199} {
			g := gate(t, int64(interval))
			out := make([]bool, 200)
			for i := range out {
				do(g, ask)
				out[i] = g.Due(begin + int64(i))
				if out[i] != (i%interval == 0) {
					t.Fatalf("interval %d from %d: %v at %d", interval, begin, out[i], i)
				}
			}
			fewOf(t, out, interval)
		}
	}
}

// Each tick may ask ahead of Due or behind it, or not at all; no picture comes.
func TestWhatIsAskedGoesOutWithinTheInterval(t *testing.T) {
	r := rand.New(rand.NewSource(24))
	for run := range 400 {
		interval := 1 + run%20
		g := gate(t, int64(interval))
		begin := r.Int63n(1000) - 500
		out, since := make([]bool, 200), -1 // since: the tick at which what is asked for was asked first
		for i := range out {
			if r.Intn(1+run%7) == 0 {
				do(g, ask)
				if since < 0 {
					since = i
				}
			}
			out[i] = g.Due(begin + int64(i))
			if out[i] && since < 0 {
				t.Fatalf("interval %d: a request at %d that nothing asked", interval, i)
			}
			if out[i] {
				since = -1
			}
			if since >= 0 && i-since >= interval {
				t.Fatalf("interval %d: asked at %d, nothing till %d", interval, since, i)
			}
			if r.Intn(1+run%5) == 0 {
				do(g, ask)
				if since < 0 {
					since = i
				}
			}
		}
		fewOf(t, out, interval)
	}
}

// Whatever is asked, comes, and how often Due is asked at a tick: as few go out, and those at least an interval apart.
func TestFewOfManyByChance(t *testing.T) {
	r := rand.New(rand.NewSource(243))
	for run := range 400 {
		interval := 1 + run%20
		g := gate(t, int64(interval))
		out, last := make([]bool, 200), -1
		for i := range out {
			for range r.Intn(8) {
				switch r.Intn(5) {
				case 0:
					do(g, came)
				case 1, 2:
					do(g, ask)
				default:
					if !g.Due(int64(i)) {
						continue
					}
					if last >= 0 && i-last < interval {
						t.Fatalf("interval %d: requests at %d and %d", interval, last, i)
					}
					out[i], last = true, i
				}
			}
		}
		fewOf(t, out, interval)
	}
}

// Of nil, and of zero.

func TestOfNil(t *testing.T) {
	var g *coalesce.Gate
	for _, tick := range edges {
		for _, a := range []act{ask, due(tick), came, ask, came, due(tick)} {
			tells(t, g, a, false)
			stands(t, g, false, 0)
		}
	}
}

// The chapter names no zero gate: it is one with an interval of 1.
func TestOfZero(t *testing.T) {
	var g coalesce.Gate
	stands(t, &g, false, 0)
	tells(t, &g, due(0), false)
	for tick := range int64(5) {
		do(&g, ask)
		tells(t, &g, due(tick), true)
		do(&g, ask)
		tells(t, &g, due(tick), false)
		stands(t, &g, true, tick+1)
	}
}

// All of them together, held against the model.

// eachRun does all runs of n acts.
func eachRun(t *testing.T, b both, acts []act, n int) {
	t.Helper()
	if n == 0 {
		return
	}
	for _, a := range acts {
		c := b.copied()
		c.do(t, a)
		eachRun(t, c, acts, n-1)
	}
}

func TestAllShortRuns(t *testing.T) {
	acts := []act{ask, came, due(-1), due(0), due(1), due(2), due(3)}
	for interval := int64(0); interval <= 4; interval++ {
		eachRun(t, newBoth(t, interval), acts, 5)
	}
}

func TestAllShortRunsAtTheEdges(t *testing.T) {
	acts := []act{ask, came, due(math.MinInt64), due(math.MinInt64 + 1), due(-1), due(0), due(math.MaxInt64 - 1), due(math.MaxInt64)}
	for _, interval := range []int64{math.MinInt64, -1, 1, 2, 1 << 62, math.MaxInt64 - 1, math.MaxInt64} {
		eachRun(t, newBoth(t, interval), acts, 4)
	}
}

// nextTick: mostly a little on, at times back, or at an edge.
func nextTick(r *rand.Rand, tick int64) int64 {
	switch r.Intn(40) {
	case 0:
		return edges[r.Intn(len(edges))]
	case 1, 2, 3:
		return tick - r.Int63n(8)
	}
	return tick + r.Int63n(4)
}

func TestLongRunsByChance(t *testing.T) {
	r := rand.New(rand.NewSource(241))
	for run := range 400 {
		b := newBoth(t, r.Int63n(10)-1)
		if run%10 == 0 {
			b = newBoth(t, edges[r.Intn(len(edges))])
		}
		tick := r.Int63n(100) - 50
		for range 250 {
			switch r.Intn(8) {
			case 0:
				b.do(t, came)
			case 1, 2, 3:
				b.do(t, ask)
			default:
				tick = nextTick(r, tick)
				b.do(t, due(tick))
			}
		}
	}
}

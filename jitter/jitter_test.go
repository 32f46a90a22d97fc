package jitter_test

import (
	"math/big"
	"math/rand"
	"testing"

	"tenaille/jitter"
)

// The chapter's numbers, written out: the tests don't go by the program's.
const (
	round = int64(1) << 32
	half  = int64(1) << 31
	most  = round - 1
)

// model is a gauge by the chapter's words, with numbers that have no end.
type model struct {
	last    *big.Int
	sixteen *big.Int
	count   int
}

func newModel() *model {
	return &model{sixteen: big.NewInt(0)}
}

func (m *model) take(came, stamp uint32) {
	way := big.NewInt(int64(came) - int64(stamp))
	way.Mod(way, big.NewInt(round))
	if m.last != nil {
		m.differ(way)
	}
	m.last = way
	m.count++
}

// differ: d is the lesser way round from one to the other, as Gone's sign doesn't count.
func (m *model) differ(way *big.Int) {
	d := new(big.Int).Sub(way, m.last)
	d.Mod(d, big.NewInt(round))
	if d.Cmp(big.NewInt(half)) > 0 {
		d.Sub(big.NewInt(round), d)
	}
	less := new(big.Int).Add(m.sixteen, big.NewInt(8))
	less.Div(less, big.NewInt(16))
	m.sixteen.Add(m.sixteen, d)
	m.sixteen.Sub(m.sixteen, less)
	if m.sixteen.Cmp(big.NewInt(most)) > 0 {
		m.sixteen.SetInt64(most)
	}
}

// next is the sixteenfold behind a packet that differs by d, in numbers that hold it.
func next(sixteen, d int64) int64 {
	return min(sixteen+d-(sixteen+8)/16, most)
}

// takeBoth gives a packet to the gauge and to the model, which must tell the same then.
func takeBoth(t *testing.T, g *jitter.Gauge, m *model, came, stamp uint32) {
	t.Helper()
	was := g.Sixteen()
	g.Take(came, stamp)
	m.take(came, stamp)
	want := m.sixteen.Int64()
	if g.Sixteen() != uint64(want) || g.Now() != uint32(want/16) || g.Count() != m.count {
		t.Fatalf("came %d, stamp %d, behind %d: %d, %d, %d; want %d, %d, %d",
			came, stamp, was, g.Sixteen(), g.Now(), g.Count(), want, want/16, m.count)
	}
}

func expect(t *testing.T, g *jitter.Gauge, sixteen int64, count int) {
	t.Helper()
	if g.Sixteen() != uint64(sixteen) || g.Now() != uint32(sixteen/16) || g.Count() != count {
		t.Fatalf("it tells %d, %d, %d; want %d, %d, %d", g.Sixteen(), g.Now(), g.Count(), sixteen, sixteen/16, count)
	}
}

// edges: numbers of 32 bits at the edges of the wrap and of the sign, and some between.
func edges() []uint32 {
	return []uint32{0, 1, 2, 7, 8, 15, 16, 160, 65535, 65536, 90000, 1<<28 - 1, 1 << 28, 1<<31 - 1, 1 << 31, 1<<31 + 1, 0x12345678, 0xfedcba98, 1<<32 - 17, 1<<32 - 16, 1<<32 - 2, 1<<32 - 1}
}

// ways is a gauge whose packets were on their way so long.
func ways(list ...uint32) jitter.Gauge {
	var g jitter.Gauge
	for i, way := range list {
		g.Take(way+uint32(i)*20, uint32(i)*20)
	}
	return g
}

// at is a gauge of a sixteenfold that one difference makes, whose last packet was on its way for no time.
func at(t *testing.T, sixteen int64) jitter.Gauge {
	t.Helper()
	g := ways(uint32(sixteen), 0)
	expect(t, &g, sixteen, 2)
	return g
}

// full is a gauge whose sixteenfold is the greatest, and whose last packet was on its way for no time.
func full(t *testing.T) (jitter.Gauge, int) {
	t.Helper()
	g := ways(1<<31, 0)
	for n := range 20 {
		g.Take(uint32(1-n%2)<<31, 0)
	}
	expect(t, &g, most, 22)
	return g, 22
}

// P18.1: what had none, and of nil.

func TestZeroGaugeHasHadNone(t *testing.T) {
	var g jitter.Gauge
	expect(t, &g, 0, 0)
}

func TestOfNilAllIsZero(t *testing.T) {
	var g *jitter.Gauge
	expect(t, g, 0, 0)
	for _, came := range edges() {
		for _, stamp := range edges() {
			g.Take(came, stamp)
			expect(t, g, 0, 0)
		}
	}
}

// P18.1: the first packet has none ahead, however long it was on its way.

func TestTheFirstPacketMakesNoJitter(t *testing.T) {
	for _, came := range edges() {
		for _, stamp := range edges() {
			var g jitter.Gauge
			g.Take(came, stamp)
			expect(t, &g, 0, 1)
		}
	}
}

// The second one has, even where the first one was on its way for no time, so that only its count is told from a new gauge.
func TestTheSecondPacketHasOneAhead(t *testing.T) {
	for _, first := range edges() {
		for _, came := range []uint32{0, 1, 500, 1 << 31, 1<<32 - 1} {
			for _, d := range []int64{0, 1, 2, 15, 16, 17, 1000, half - 1, half} {
				var later, earlier jitter.Gauge
				later.Take(came, came-first)
				later.Take(came+uint32(d), came-first)
				expect(t, &later, d, 2)
				earlier.Take(came, came-first)
				earlier.Take(came-uint32(d), came-first)
				expect(t, &earlier, d, 2)
			}
		}
	}
}

// P18.1: how long a packet was on its way is a difference modulo 2^32.

func TestTheWayGoesRound(t *testing.T) {
	for _, came := range edges() {
		for _, stamp := range edges() {
			for _, shift := range edges() {
				var g jitter.Gauge
				g.Take(came, stamp)
				g.Take(came+shift, stamp+shift)
				expect(t, &g, 0, 2)
			}
		}
	}
}

// Each of two packets has a time and a stamp at an edge.
func TestTwoPacketsAtTheEdges(t *testing.T) {
	for _, came := range edges() {
		for _, stamp := range edges() {
			for _, came2 := range edges() {
				for _, stamp2 := range edges() {
					var g jitter.Gauge
					m := newModel()
					takeBoth(t, &g, m, came, stamp)
					takeBoth(t, &g, m, came2, stamp2)
				}
			}
		}
	}
}

// P18.1: d is how far both differ, either way, up to half a round.

func TestTheDifferenceHasNoSign(t *testing.T) {
	for _, c := range []struct {
		a, b uint32
		d    int64
	}{
		{0, 0, 0}, {0, 1, 1}, {1, 0, 1}, {5, 105, 100}, {105, 5, 100},
		{0, 1<<32 - 1, 1}, {1<<32 - 1, 0, 1}, {1<<32 - 10, 20, 30}, {20, 1<<32 - 10, 30},
		{0, 1<<31 - 1, half - 1}, {1<<31 - 1, 0, half - 1}, {0, 1 << 31, half}, {1 << 31, 0, half},
		{0, 1<<31 + 1, half - 1}, {1<<31 + 1, 0, half - 1}, {1 << 30, 3 << 30, half}, {3 << 30, 1 << 30, half},
		{1<<31 - 1, 1 << 31, 1}, {1 << 31, 1<<31 - 1, 1}, {1<<31 - 1, 1<<32 - 1, half}, {1<<32 - 1, 1<<31 - 1, half},
	} {
		g := ways(c.a, c.b)
		expect(t, &g, c.d, 2)
	}
}

// What is ahead is the packet that came last, not the first one, nor the one with the greatest stamp.
func TestTheDifferenceIsFromTheLastPacket(t *testing.T) {
	var g jitter.Gauge
	want := int64(0)
	for i, c := range []struct {
		came, stamp uint32
		d           int64
	}{{100, 40, 0}, {110, 50, 0}, {111, 30, 21}, {140, 80, 21}, {141, 80, 1}, {141, 80, 0}, {100, 40, 1}, {2000, 940, 1000}} {
		g.Take(c.came, c.stamp)
		if i > 0 {
			want = next(want, c.d)
		}
		expect(t, &g, want, i+1)
	}
}

// P18.1: what goes of the sixteenfold.

// Each small sixteenfold, and many greater ones, with differences that are small, at edges, and great.
func TestWhatGoesIsRoundedDown(t *testing.T) {
	list := []int64{}
	for n := range int64(5000) {
		list = append(list, n)
	}
	for _, edge := range []int64{1 << 16, 1 << 20, 1 << 24, 1 << 28, 1 << 30, half - 40} {
		for near := int64(-40); near <= 40; near++ {
			list = append(list, edge+near)
		}
	}
	for _, sixteen := range list {
		for _, d := range []int64{0, 1, 2, 3, 7, 8, 15, 16, 17, 100, 1 << 20, half} {
			g := at(t, sixteen)
			g.Take(uint32(d), 0)
			expect(t, &g, next(sixteen, d), 3)
		}
	}
}

func TestWhatGoesWrittenOut(t *testing.T) {
	for _, c := range []struct{ sixteen, want int64 }{
		{0, 0}, {1, 1}, {6, 6}, {7, 7}, {8, 7}, {9, 8}, {15, 14}, {16, 15}, {22, 21}, {23, 22}, {24, 22}, {25, 23},
		{39, 37}, {40, 37}, {41, 38}, {160, 150}, {1600, 1500}, {1607, 1507}, {1608, 1507}, {half, half - half/16},
	} {
		g := at(t, c.sixteen)
		g.Take(0, 0)
		expect(t, &g, c.want, 3)
	}
}

// It goes by the sixteenfold ahead of the packet: the difference isn't in it yet.
func TestWhatGoesIsOfWhatWasAhead(t *testing.T) {
	for _, d := range []int64{8, 9, 15, 16, 24, 1000, half} {
		g := ways(0, uint32(d))
		expect(t, &g, d, 2)
		g.Take(0, 0)
		expect(t, &g, min(2*d-(d+8)/16, most), 3)
	}
}

// Of even packets behind an uneven one it sinks to 7, below which nothing goes.
func TestItSinksToSeven(t *testing.T) {
	for _, sixteen := range []int64{8, 15, 100, 4000, 1 << 20, half} {
		g := at(t, sixteen)
		want, count := sixteen, 2
		for want > 7 {
			g.Take(uint32(count)*20, uint32(count)*20)
			want, count = want-(want+8)/16, count+1
			expect(t, &g, want, count)
		}
		for range 100 {
			g.Take(uint32(count)*20, uint32(count)*20)
			count++
			expect(t, &g, 7, count)
		}
	}
	for sixteen := range int64(8) {
		g := at(t, sixteen)
		g.Take(20, 20)
		expect(t, &g, sixteen, 3)
	}
}

// P18.1: at most 2^32 - 1.

func TestTheGreatestSixteenfold(t *testing.T) {
	g, count := full(t)
	for n := range 100 {
		g.Take(uint32(1-n%2)<<31, 0)
		count++
		expect(t, &g, most, count)
	}
}

// Differences with which it would be just below, at and just above the bound.
func TestTheEdgeOfTheGreatest(t *testing.T) {
	was, _ := full(t)
	// What goes of the greatest is 2^28: one part of 16 of 2^32 and 7.
	gone := int64(1) << 28
	for _, c := range []struct{ d, want int64 }{
		{0, most - gone}, {1, most - gone + 1}, {gone - 2, most - 2}, {gone - 1, most - 1},
		{gone, most}, {gone + 1, most}, {gone + 2, most}, {2 * gone, most}, {half - 1, most}, {half, most},
	} {
		g := was
		g.Take(uint32(c.d), 0)
		expect(t, &g, c.want, 23)
	}
}

// It sinks from the bound as from any other one, without what was above it.
func TestItSinksFromTheGreatest(t *testing.T) {
	g, count := full(t)
	want := most
	for want > 7 {
		g.Take(0, 0)
		want, count = next(want, 0), count+1
		expect(t, &g, want, count)
	}
}

// The third difference of half a round would go beyond 32 bits; the sums must hold it.
func TestTheWayUpToTheGreatest(t *testing.T) {
	var g jitter.Gauge
	for i, want := range []int64{0, half, 4160749568, most, most} {
		g.Take(uint32(i%2)<<31, 0)
		expect(t, &g, want, i+1)
	}
}

// P18.1: Now is a sixteenth, rounded down.

func TestNowIsASixteenth(t *testing.T) {
	for sixteen := range uint32(70000) {
		g := at(t, int64(sixteen))
		if g.Now() != sixteen>>4 {
			t.Fatalf("of %d: %d", sixteen, g.Now())
		}
	}
	for _, c := range []struct {
		sixteen int64
		now     uint32
	}{{0, 0}, {15, 0}, {16, 1}, {31, 1}, {32, 2}, {1<<28 - 1, 1<<24 - 1}, {half - 1, 1<<27 - 1}, {half, 1 << 27}} {
		g := at(t, c.sixteen)
		if g.Now() != c.now {
			t.Errorf("of %d: %d; want %d", c.sixteen, g.Now(), c.now)
		}
	}
	g, _ := full(t)
	if g.Now() != 1<<28-1 {
		t.Errorf("of the greatest: %d", g.Now())
	}
}

// P18.1: Count is how many it has had, whatever they were.

func TestCount(t *testing.T) {
	var even, same, wild jitter.Gauge
	for n := range 200_000 {
		even.Take(uint32(n)*20, uint32(n)*20)
		same.Take(7, 7)
		wild.Take(uint32(n)*0x9e3779b9, uint32(n)*77)
		if even.Count() != n+1 || same.Count() != n+1 || wild.Count() != n+1 {
			t.Fatalf("behind %d packets: %d, %d, %d", n+1, even.Count(), same.Count(), wild.Count())
		}
	}
}

func TestToAskTurnsNothing(t *testing.T) {
	whole, _ := full(t)
	for _, g := range []jitter.Gauge{{}, ways(0), ways(9), ways(0, 0), ways(5, 9, 1), whole} {
		was := g
		for range 3 {
			g.Now()
			g.Sixteen()
			g.Count()
		}
		if g != was {
			t.Errorf("%+v; was %+v", g, was)
		}
	}
}

// P18.2: of packets that come evenly the jitter is 0.

func TestEvenPacketsMakeNoJitter(t *testing.T) {
	for _, step := range edges() {
		for _, came := range edges() {
			for _, stamp := range []uint32{0, 1, 1 << 31, 1<<32 - 1} {
				var g jitter.Gauge
				for n := range uint32(30) {
					g.Take(came+n*step, stamp+n*step)
					expect(t, &g, 0, int(n)+1)
				}
			}
		}
	}
}

// So is it where the steps are of all sizes, as long as times and stamps go by the same.
func TestEvenPacketsOfAnyStep(t *testing.T) {
	r := rand.New(rand.NewSource(1))
	for range 200 {
		var g jitter.Gauge
		came, stamp := r.Uint32(), r.Uint32()
		for n := range 500 {
			g.Take(came, stamp)
			expect(t, &g, 0, n+1)
			step := r.Uint32() >> r.Intn(32)
			came, stamp = came+step, stamp+step
		}
	}
}

// P18.2: the jitter is never above the greatest d.

// Where each differs by as much, the sixteenfold goes up till what goes of it is what comes: 8 below 16 times the difference.
func TestNeverAboveTheGreatestDifference(t *testing.T) {
	for _, d := range []int64{0, 1, 2, 3, 7, 8, 15, 16, 17, 100, 1000, 1 << 20, 1<<28 - 2, 1<<28 - 1, 1 << 28, half} {
		var g jitter.Gauge
		for n := range uint32(1000) {
			g.Take(n%2*uint32(d), 0)
			if int64(g.Now()) > d {
				t.Fatalf("of differences of %d: %d, behind %d packets", d, g.Now(), n+1)
			}
		}
		expect(t, &g, min(max(16*d-8, 0), most), 1000)
	}
}

func TestNeverAboveTheGreatestDifferenceByChance(t *testing.T) {
	r := rand.New(rand.NewSource(2))
	for range 2000 {
		var g jitter.Gauge
		bound, greatest, way := 1+r.Int63n(1<<(1+r.Intn(31))), int64(0), int64(0)
		for n := range 200 {
			if n > 0 {
				d := bound - r.Int63n(bound+1)>>r.Intn(20)
				greatest = max(greatest, d)
				way += d * int64(1-2*r.Intn(2))
			}
			g.Take(uint32(way)+uint32(n), uint32(n))
			if int64(g.Now()) > greatest {
				t.Fatalf("%d of differences up to %d", g.Now(), greatest)
			}
		}
	}
}

// All together, held against the model.

func TestAllShortRuns(t *testing.T) {
	list := []uint32{0, 1, 8, 9, 24, 1<<31 - 1, 1 << 31, 1<<31 + 9, 1<<32 - 8}
	var run func(done []uint32, depth int)
	run = func(done []uint32, depth int) {
		var g jitter.Gauge
		m := newModel()
		for i, way := range done {
			takeBoth(t, &g, m, way+uint32(i), uint32(i))
		}
		if depth == 0 {
			return
		}
		for _, way := range list {
			run(append(done[:len(done):len(done)], way), depth-1)
		}
	}
	run(nil, 5)
}

func TestRunsByChance(t *testing.T) {
	for seed := range int64(300) {
		r := rand.New(rand.NewSource(seed))
		var g jitter.Gauge
		m := newModel()
		came, stamp := r.Uint32(), r.Uint32()
		for range 1000 {
			takeBoth(t, &g, m, came, stamp)
			came, stamp = nextByChance(r, came, stamp)
		}
	}
}

// nextByChance: mostly a packet that comes somewhat unevenly, at times one that is far off, at an edge, or comes again.
func nextByChance(r *rand.Rand, came, stamp uint32) (uint32, uint32) {
	switch r.Intn(16) {
	case 0:
		return r.Uint32(), r.Uint32()
	case 1:
		return came + 1<<31, stamp
	case 2:
		return came, stamp
	case 3:
		return came, stamp + 1<<31 - 1
	case 4:
		list := edges()
		return list[r.Intn(len(list))], list[r.Intn(len(list))]
	case 5:
		return came + 5, stamp - 20
	}
	return came + 15 + uint32(r.Intn(11)), stamp + 20
}

// Rules 5 and 6: a copy is a gauge of its own, and the same done to two makes the same.

func TestGaugesDoNotShare(t *testing.T) {
	a := ways(10, 10, 42)
	b := a
	a.Take(1000, 0)
	expect(t, &b, 32, 3)
	expect(t, &a, next(32, 958), 4)
	b.Take(42, 0)
	expect(t, &b, 30, 4)
	expect(t, &a, next(32, 958), 4)
}

func TestTheSameDoneMakesTheSame(t *testing.T) {
	var a, b jitter.Gauge
	for _, came := range edges() {
		for _, stamp := range edges() {
			a.Take(came, stamp)
			b.Take(came, stamp)
			if a != b || a.Sixteen() != b.Sixteen() {
				t.Errorf("behind %d and %d: %+v and %+v", came, stamp, a, b)
			}
		}
	}
}

// The chapter's examples.
func TestExamples(t *testing.T) {
	var g jitter.Gauge
	g.Take(0, 0)
	expect(t, &g, 0, 1)
	g.Take(10, 10)
	expect(t, &g, 0, 2)
	g.Take(35, 20)
	if g.Sixteen() != 15 || g.Now() != 0 || g.Count() != 3 {
		t.Errorf("%d, %d, %d", g.Sixteen(), g.Now(), g.Count())
	}
}

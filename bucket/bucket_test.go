package bucket_test

import (
	"math"
	"math/big"
	"math/rand"
	"testing"

	"tenaille/bucket"
)

const (
	most     = uint64(math.MaxUint64)
	mostWait = int64(math.MaxInt64)
)

// model is a bucket by the chapter's words, with numbers that have no end.
type model struct {
	rate, burst, has *big.Int
}

func number(n uint64) *big.Int {
	return new(big.Int).SetUint64(n)
}

func newModel(rate, burst uint64) *model {
	return &model{rate: number(rate), burst: number(burst), has: number(burst)}
}

func (m *model) give(n *big.Int) {
	m.has.Add(m.has, n)
	if m.has.Cmp(m.burst) > 0 {
		m.has.Set(m.burst)
	}
}

func (m *model) tick() {
	m.give(m.rate)
}

func (m *model) take(n uint64) bool {
	if m.has.Cmp(number(n)) < 0 {
		return false
	}
	m.has.Sub(m.has, number(n))
	return true
}

// wait: the least t with which n are there, or -1.
func (m *model) wait(n uint64) int64 {
	lacking := new(big.Int).Sub(number(n), m.has)
	if lacking.Sign() <= 0 {
		return 0
	}
	if number(n).Cmp(m.burst) > 0 || m.rate.Sign() == 0 {
		return -1
	}
	ticks, rest := new(big.Int).QuoRem(lacking, m.rate, new(big.Int))
	if rest.Sign() > 0 {
		ticks.Add(ticks, big.NewInt(1))
	}
	if !ticks.IsInt64() {
		return mostWait
	}
	return ticks.Int64()
}

// edges: amounts at the edges of what numbers may be.
func edges() []uint64 {
	return []uint64{
		0, 1, 2, 3, 5, 7, 1199, 1200, 1201, 1<<31 - 1, 1 << 32, 1<<53 + 1,
		1<<63 - 2, 1<<63 - 1, 1 << 63, 1<<63 + 1, most - 2, most - 1, most,
	}
}

// compare: does the bucket tell what the model does?
func compare(t *testing.T, b *bucket.Bucket, m *model) {
	t.Helper()
	has := m.has.Uint64()
	if b.Have() != has {
		t.Fatalf("rate %d, burst %d: has %d; want %d", m.rate, m.burst, b.Have(), has)
	}
	burst := m.burst.Uint64()
	for _, n := range append(edges(), has-1, has, has+1, burst-1, burst, burst+1) {
		if got, want := b.Wait(n), m.wait(n); got != want {
			t.Fatalf("rate %d, burst %d, which has %d: Wait %d: %d; want %d", m.rate, m.burst, has, n, got, want)
		}
	}
	if b.Have() != has {
		t.Fatalf("rate %d, burst %d: Wait took %d to %d", m.rate, m.burst, has, b.Have())
	}
}

// takeBoth takes n of the bucket and of the model.
func takeBoth(t *testing.T, b *bucket.Bucket, m *model, n uint64) {
	t.Helper()
	has := b.Have()
	if got, want := b.Take(n), m.take(n); got != want {
		t.Fatalf("Take %d of %d: %v; want %v", n, has, got, want)
	}
}

// left: a bucket that has so many, which are at most its burst.
func left(t *testing.T, rate, burst, has uint64) *bucket.Bucket {
	t.Helper()
	b := bucket.New(rate, burst)
	if !b.Take(burst-has) || b.Have() != has {
		t.Fatalf("rate %d, burst %d: %d; want %d", rate, burst, b.Have(), has)
	}
	return b
}

// P9.1: New, Tick, Have.

func TestNewHasItsBurst(t *testing.T) {
	for _, rate := range edges() {
		for _, burst := range edges() {
			if got := bucket.New(rate, burst).Have(); got != burst {
				t.Errorf("rate %d, burst %d: has %d", rate, burst, got)
			}
		}
	}
}

func TestTickBringsTheRateAtMostToTheBurst(t *testing.T) {
	for _, c := range []struct{ rate, burst, has, want uint64 }{
		{2, 5, 0, 2}, {2, 5, 1, 3}, {2, 5, 2, 4}, {2, 5, 3, 5}, {2, 5, 4, 5}, {2, 5, 5, 5},
		{0, 5, 0, 0}, {0, 5, 3, 3}, {5, 5, 0, 5}, {6, 5, 0, 5}, {1, 0, 0, 0}, {0, 0, 0, 0}, {most, 0, 0, 0},
		{1, most, most - 2, most - 1}, {1, most, most - 1, most}, {1, most, most, most}, {2, most, most - 1, most},
		{most, most, 0, most}, {most, most, 1, most}, {most, most, most - 1, most}, {most, 7, 6, 7}, {most - 1, most, 2, most},
		{1 << 63, most, 1 << 63, most}, {1 << 63, most, 1<<63 - 1, most}, {1 << 63, most, 1<<63 - 2, most - 1},
	} {
		b := left(t, c.rate, c.burst, c.has)
		if b.Tick(); b.Have() != c.want {
			t.Errorf("rate %d, burst %d, which has %d: then %d; want %d", c.rate, c.burst, c.has, b.Have(), c.want)
		}
	}
}

func TestEachTickBringsTheRate(t *testing.T) {
	b := left(t, 7, 1000, 3)
	for n := range uint64(200) {
		if got, want := b.Have(), min(3+7*n, 1000); got != want {
			t.Fatalf("behind %d ticks: %d; want %d", n, got, want)
		}
		b.Tick()
	}
}

func TestTickOfAFullOneTurnsNothing(t *testing.T) {
	for _, rate := range edges() {
		for _, burst := range edges() {
			b := bucket.New(rate, burst)
			if b.Tick(); b.Have() != burst {
				t.Errorf("rate %d, burst %d: has %d", rate, burst, b.Have())
			}
		}
	}
}

func TestOfNilThereIsNothing(t *testing.T) {
	var b *bucket.Bucket
	for _, n := range edges() {
		b.Tick()
		b.Give(n)
		if b.Have() != 0 || b.Take(n) || b.Wait(n) != -1 || b.Copy() != nil {
			t.Errorf("%d: %d, %v, %d, %v", n, b.Have(), b.Take(n), b.Wait(n), b.Copy())
		}
	}
}

// A zero bucket has neither rate nor burst.
func TestZeroBucketIsNewWithNothing(t *testing.T) {
	var b bucket.Bucket
	m := newModel(0, 0)
	compare(t, &b, m)
	b.Tick()
	b.Give(9)
	compare(t, &b, m)
	takeBoth(t, &b, m, 0)
	takeBoth(t, &b, m, 1)
	compare(t, &b, m)
}

// P9.2: Take, Wait.

func TestTakeTakesWhatIsThere(t *testing.T) {
	for _, has := range edges() {
		for _, n := range edges() {
			b := left(t, 3, most, has)
			want := has
			if n <= has {
				want -= n
			}
			if got := b.Take(n); got != (n <= has) || b.Have() != want {
				t.Errorf("Take %d of %d: %v, then %d; want %d", n, has, got, b.Have(), want)
			}
		}
	}
}

func TestTakeByOnesUntilThereIsNone(t *testing.T) {
	b := bucket.New(4, 30)
	for n := range uint64(30) {
		if !b.Take(1) || b.Have() != 29-n {
			t.Fatalf("the one %d: %d", n, b.Have())
		}
	}
	for range 3 {
		if b.Take(1) || b.Have() != 0 {
			t.Fatalf("of none: %d", b.Have())
		}
	}
}

func TestNothingMayAlwaysBeTaken(t *testing.T) {
	for _, has := range []uint64{0, 1, 5} {
		if b := left(t, 0, 5, has); !b.Take(0) || b.Have() != has {
			t.Errorf("of %d: then %d", has, b.Have())
		}
	}
}

// Whatever is refused, what comes behind it is as if that hadn't been asked.
func TestWhatIsRefusedTurnsNothing(t *testing.T) {
	for _, n := range []uint64{6, 7, 10, 1 << 63, most - 5, most} {
		b := left(t, 2, 10, 5)
		was := *b
		if b.Take(n) || *b != was {
			t.Errorf("Take %d: %v; was %v", n, *b, was)
		}
		if b.Wait(n); *b != was {
			t.Errorf("Wait %d: %v; was %v", n, *b, was)
		}
	}
}

func TestWait(t *testing.T) {
	for _, c := range []struct {
		rate, burst, has, n uint64
		want                int64
	}{
		{2, 5, 1, 0, 0}, {2, 5, 1, 1, 0}, {2, 5, 1, 2, 1}, {2, 5, 1, 3, 1}, {2, 5, 1, 4, 2}, {2, 5, 1, 5, 2}, {2, 5, 1, 6, -1},
		{0, 5, 3, 3, 0}, {0, 5, 3, 4, -1}, {0, 5, 3, 6, -1}, {0, 0, 0, 0, 0}, {0, 0, 0, 1, -1}, {3, 0, 0, 0, 0}, {3, 0, 0, 1, -1},
		{100, 5, 0, 5, 1}, {most, 5, 0, 5, 1}, {most, most, 0, most, 1}, {most - 1, most, 0, most, 2}, {most - 1, most, 1, most, 1},
		{1, most, 0, 1<<63 - 2, mostWait - 1}, {1, most, 0, 1<<63 - 1, mostWait}, {1, most, 0, 1 << 63, mostWait}, {1, most, 0, most, mostWait},
		{1, most, 2, 1 << 63, mostWait - 1}, {2, most, 0, most - 1, mostWait}, {2, most, 0, most - 3, mostWait - 1}, {2, most, 0, most, mostWait},
		{2, most, 1, most, mostWait}, {2, most, 3, most, mostWait - 1}, {3, most, 0, most, 6148914691236517205}, {3, most, 1, most, 6148914691236517205},
		{1, most - 1, 0, most, -1}, {1, most, most, most, 0}, {1, most, most - 1, most, 1}, {1 << 63, most, 0, most, 2}, {1 << 63, most, 0, 1 << 63, 1},
	} {
		b := left(t, c.rate, c.burst, c.has)
		if got := b.Wait(c.n); got != c.want {
			t.Errorf("rate %d, burst %d, which has %d: Wait %d: %d; want %d", c.rate, c.burst, c.has, c.n, got, c.want)
		}
	}
}

// With so many ticks, and with none fewer, n are there.
func TestWaitIsTheLeastOfTicks(t *testing.T) {
	for rate := range uint64(9) {
		for burst := range uint64(14) {
			for has := range burst + 1 {
				for n := range burst + 3 {
					b := left(t, rate, burst, has)
					want := int64(-1)
					for ticks := range int64(20) {
						if b.Have() >= n {
							want = ticks
							break
						}
						b.Tick()
					}
					if got := left(t, rate, burst, has).Wait(n); got != want {
						t.Fatalf("rate %d, burst %d, which has %d: Wait %d: %d; want %d", rate, burst, has, n, got, want)
					}
				}
			}
		}
	}
}

func TestWaitAtTheEdges(t *testing.T) {
	for _, rate := range edges() {
		for _, burst := range edges() {
			for _, taken := range append(edges(), burst/2, burst) {
				b, m := bucket.New(rate, burst), newModel(rate, burst)
				takeBoth(t, b, m, taken)
				compare(t, b, m)
			}
		}
	}
}

// P9.3: Give, Copy.

func TestGiveBringsAtMostTheBurst(t *testing.T) {
	for _, burst := range edges() {
		for _, taken := range append(edges(), burst/2, burst) {
			for _, n := range edges() {
				b, m := bucket.New(11, burst), newModel(11, burst)
				takeBoth(t, b, m, taken)
				b.Give(n)
				m.give(number(n))
				compare(t, b, m)
			}
		}
	}
}

func TestGiveBringsWhatWasTaken(t *testing.T) {
	b := left(t, 0, 10, 2)
	for _, c := range []struct{ n, want uint64 }{{0, 2}, {1, 3}, {4, 7}, {3, 10}, {0, 10}, {1, 10}, {most, 10}} {
		if b.Give(c.n); b.Have() != c.want {
			t.Errorf("Give %d: %d; want %d", c.n, b.Have(), c.want)
		}
	}
	if !b.Take(10) || b.Take(1) {
		t.Errorf("what was given: %d", b.Have())
	}
}

func TestCopyIsLikeIt(t *testing.T) {
	for _, rate := range edges() {
		for _, burst := range edges() {
			b, m := bucket.New(rate, burst), newModel(rate, burst)
			takeBoth(t, b, m, burst/2)
			c := b.Copy()
			if c == b {
				t.Fatal("the copy is itself")
			}
			compare(t, c, m)
			c.Tick()
			m.tick()
			compare(t, c, m)
		}
	}
}

func TestCopiesDoNotShare(t *testing.T) {
	for name, turn := range map[string]func(b *bucket.Bucket){
		"Tick": func(b *bucket.Bucket) { b.Tick() },
		"Take": func(b *bucket.Bucket) { b.Take(3) },
		"Give": func(b *bucket.Bucket) { b.Give(1) },
	} {
		a := left(t, 2, 10, 5)
		b := a.Copy()
		was := *a
		if turn(b); *a != was || *b == was {
			t.Errorf("%s of the copy: %v and %v; was %v", name, *a, *b, was)
		}
		turn(a)
		if *a != *b {
			t.Errorf("%s of both: %v and %v", name, *a, *b)
		}
	}
}

// P9.4: in t ticks at most the burst and t times the rate.

// Over each stretch of ticks, one that begins with a bucket of any state too.
func TestNoMoreIsTakenThanMayBe(t *testing.T) {
	for seed := range int64(60) {
		r := rand.New(rand.NewSource(seed))
		rate, burst := uint64(r.Intn(12)), uint64(r.Intn(60))
		b := bucket.New(rate, burst)
		taken := make([]uint64, 200) // behind each tick, till the next one
		for at := range taken {
			for range r.Intn(12) {
				if n := uint64(r.Intn(20)); b.Take(n) {
					taken[at] += n
				}
			}
			b.Tick()
		}
		for from := range taken {
			sum := uint64(0)
			for at := from; at < len(taken); at++ {
				sum += taken[at]
				if may := burst + uint64(at-from)*rate; sum > may {
					t.Fatalf("seed %d, rate %d, burst %d: %d from %d to %d; may be %d", seed, rate, burst, sum, from, at, may)
				}
			}
		}
	}
}

// The bound is reached: where all is taken at each tick, and the rate is at most the burst, nothing is lost.
func TestAllThatMayBeIsTaken(t *testing.T) {
	for _, c := range []struct{ rate, burst uint64 }{{0, 5}, {1, 1}, {2, 5}, {5, 5}, {7, 100}, {1000, 1 << 40}, {1 << 50, 1 << 60}} {
		b := bucket.New(c.rate, c.burst)
		sum := uint64(0)
		for ticks := range uint64(50) {
			has := b.Have()
			if !b.Take(has) || b.Take(1) {
				t.Fatalf("rate %d, burst %d: %d of %d", c.rate, c.burst, b.Have(), has)
			}
			if sum += has; sum != c.burst+ticks*c.rate {
				t.Fatalf("rate %d, burst %d: %d in %d ticks", c.rate, c.burst, sum, ticks)
			}
			b.Tick()
		}
	}
}

// However long it waits, no more than the burst is there at once.
func TestNoMoreThanTheBurstIsSaved(t *testing.T) {
	for _, c := range []struct{ rate, burst uint64 }{{1, 0}, {1, 1}, {3, 7}, {7, 7}, {8, 7}, {1 << 62, most}, {most, most - 1}, {most, 1}} {
		b := bucket.New(c.rate, c.burst)
		b.Take(b.Have())
		for range 100 {
			if b.Tick(); b.Have() > c.burst {
				t.Fatalf("rate %d, burst %d: has %d", c.rate, c.burst, b.Have())
			}
		}
		if b.Have() != c.burst || !b.Take(c.burst) || b.Take(1) {
			t.Errorf("rate %d, burst %d: has %d", c.rate, c.burst, b.Have())
		}
	}
}

// All calls together.

func TestRunsByChance(t *testing.T) {
	for seed := range int64(200) {
		r := rand.New(rand.NewSource(seed))
		amount := func() uint64 {
			if r.Intn(4) == 0 {
				list := edges()
				return list[r.Intn(len(list))]
			}
			return r.Uint64() >> r.Intn(64)
		}
		rate, burst := amount(), amount()
		b, m := bucket.New(rate, burst), newModel(rate, burst)
		for range 200 {
			switch n := amount(); r.Intn(5) {
			case 0:
				b.Tick()
				m.tick()
			case 1:
				b.Give(n)
				m.give(number(n))
			case 2:
				b = b.Copy()
			case 3:
				takeBoth(t, b, m, n)
			case 4:
				takeBoth(t, b, m, b.Have()>>r.Intn(8))
			}
			compare(t, b, m)
		}
	}
}

// Rule 6: the same done to two makes the same.
func TestTheSameDoneMakesTheSame(t *testing.T) {
	a, b := bucket.New(3, 20), bucket.New(3, 20)
	for n := range uint64(40) {
		if x, y := a.Take(n%9), b.Take(n%9); x != y || a.Wait(n) != b.Wait(n) {
			t.Errorf("Take %d: %v and %v", n%9, x, y)
		}
		a.Tick()
		b.Tick()
		if *a != *b {
			t.Errorf("behind %d: %v and %v", n, *a, *b)
		}
	}
}

// The chapter's examples.
func TestExamples(t *testing.T) {
	b := bucket.New(2, 5)
	if !b.Take(4) || b.Take(2) {
		t.Error("Take")
	}
	if w := b.Wait(2); w != 1 {
		t.Error("Wait", w)
	}
	if b.Tick(); b.Have() != 3 {
		t.Error("Tick", b.Have())
	}
}

package losses_test

import (
	"math"
	"math/big"
	"math/rand"
	"testing"

	"tenaille/api"
	"tenaille/losses"
	"tenaille/rtcp"
)

// P20.3: Report.

// wantReport is a report by the chapter's words, reckoned without a bound.
func wantReport(x api.Report, a, b api.Standing) api.Report {
	since := func(from, to int64) *big.Int { return new(big.Int).Sub(big.NewInt(to), big.NewInt(from)) }
	high := new(big.Int).Mod(big.NewInt(b.High), big.NewInt(1<<32))
	lost := since(b.Received, b.Expected)
	if most := big.NewInt(1<<23 - 1); lost.Cmp(most) > 0 {
		lost = most
	}
	if least := big.NewInt(-1 << 23); lost.Cmp(least) < 0 {
		lost = least
	}
	expected := since(a.Expected, b.Expected)
	missed := new(big.Int).Sub(expected, since(a.Received, b.Received))
	fraction := big.NewInt(0)
	if expected.Sign() > 0 && missed.Sign() > 0 {
		fraction.Div(new(big.Int).Mul(missed, big.NewInt(256)), expected)
	}
	if most := big.NewInt(255); fraction.Cmp(most) > 0 {
		fraction = most
	}
	x.High, x.Lost, x.Fraction = uint32(high.Uint64()), int32(lost.Int64()), byte(fraction.Int64())
	return x
}

func report(t *testing.T, x api.Report, a, b api.Standing) api.Report {
	t.Helper()
	got, want := losses.Report(x, a, b), wantReport(x, a, b)
	if got != want {
		t.Fatalf("of %+v, %+v, %+v:\n%+v; want\n%+v", x, a, b, got, want)
	}
	return got
}

func TestReportKeepsTheOthers(t *testing.T) {
	a := api.Standing{Expected: 100, Received: 90, High: 500, Valid: true}
	b := api.Standing{Expected: 200, Received: 165, High: 1<<32 + 7, Valid: true}
	x := api.Report{Source: 1<<32 - 1, Fraction: 9, Lost: -5, High: 77, Jitter: 4, Last: 1 << 31, Delay: 65536}
	want := api.Report{Source: 1<<32 - 1, Fraction: 64, Lost: 35, High: 7, Jitter: 4, Last: 1 << 31, Delay: 65536}
	if got := losses.Report(x, a, b); got != want {
		t.Errorf("%+v; want %+v", got, want)
	}
	want = api.Report{Fraction: 64, Lost: 35, High: 7}
	if got := losses.Report(api.Report{}, a, b); got != want {
		t.Errorf("%+v; want %+v", got, want)
	}
}

func TestReportOfNothing(t *testing.T) {
	if got := losses.Report(api.Report{}, api.Standing{}, api.Standing{}); got != (api.Report{}) {
		t.Errorf("%+v", got)
	}
}

// Whether a source is past its probation turns nothing.
func TestReportWhetherValid(t *testing.T) {
	for _, a := range []bool{false, true} {
		for _, b := range []bool{false, true} {
			got := losses.Report(api.Report{}, api.Standing{Expected: 4, Received: 4, Valid: a}, api.Standing{Expected: 8, Received: 6, High: 9, Valid: b})
			if got != (api.Report{Fraction: 128, Lost: 2, High: 9}) {
				t.Errorf("%v, %v: %+v", a, b, got)
			}
		}
	}
}

func TestReportHigh(t *testing.T) {
	for _, c := range []struct {
		high int64
		want uint32
	}{
		{0, 0}, {1, 1}, {65535, 65535}, {65536, 65536}, {1<<32 - 1, 1<<32 - 1}, {1 << 32, 0}, {1<<32 + 7, 7},
		{1<<48 + 1<<31, 1 << 31}, {math.MaxInt64, 1<<32 - 1}, {-1, 1<<32 - 1}, {math.MinInt64, 0}, {math.MinInt64 + 3, 3},
	} {
		// It is that of now, not of the last report.
		if got := report(t, api.Report{High: 5}, api.Standing{High: 12345}, api.Standing{High: c.high}); got.High != c.want {
			t.Errorf("%d: %d; want %d", c.high, got.High, c.want)
		}
	}
}

func TestReportLost(t *testing.T) {
	for _, c := range []struct {
		expected, received int64
		want               int32
	}{
		{0, 0, 0}, {10, 10, 0}, {10, 9, 1}, {10, 0, 10}, {9, 10, -1}, {0, 10, -10},
		{1<<23 - 2, 0, 1<<23 - 2}, {1<<23 - 1, 0, 1<<23 - 1}, {1 << 23, 0, 1<<23 - 1}, {1<<23 + 1, 0, 1<<23 - 1},
		{0, 1<<23 - 1, -1<<23 + 1}, {0, 1 << 23, -1 << 23}, {0, 1<<23 + 1, -1 << 23},
		{1 << 32, 0, 1<<23 - 1}, {1<<32 + 5, 1 << 32, 5}, {0, 1 << 32, -1 << 23}, {1 << 32, 1<<32 + 5, -5},
		{math.MaxInt64, 0, 1<<23 - 1}, {math.MaxInt64, math.MaxInt64 - 3, 3}, {0, math.MaxInt64, -1 << 23},
		{math.MaxInt64, math.MinInt64, 1<<23 - 1}, {math.MinInt64, math.MaxInt64, -1 << 23},
		{math.MinInt64, 1, -1 << 23}, {1, math.MinInt64, 1<<23 - 1}, {math.MinInt64, math.MinInt64 + 2, -2},
	} {
		// It is of all that were expected, not of those since the last report.
		for _, a := range []api.Standing{{}, {Expected: 5, Received: 2}, {Expected: c.expected, Received: c.received}} {
			b := api.Standing{Expected: c.expected, Received: c.received}
			if got := report(t, api.Report{Lost: 77}, a, b); got.Lost != c.want {
				t.Errorf("%d less %d: %d; want %d", c.expected, c.received, got.Lost, c.want)
			}
		}
	}
}

func TestReportFraction(t *testing.T) {
	for _, c := range []struct {
		expected, received int64 // since the last report
		want               byte
	}{
		{100, 75, 64}, {100, 100, 0}, {100, 99, 2}, {100, 0, 255}, {100, -1, 255}, {100, -1000, 255}, {100, 101, 0}, {100, 100000, 0},
		{1, 0, 255}, {1, 1, 0}, {1, 2, 0}, {2, 1, 128}, {3, 2, 85}, {3, 1, 170}, {256, 255, 1}, {257, 256, 0}, {256, 1, 255}, {257, 1, 255}, {512, 511, 0}, {512, 510, 1}, {512, 1, 255}, {511, 2, 254},
		{0, 0, 0}, {0, 5, 0}, {0, -5, 0}, {-1, 0, 0}, {-1, -2, 0}, {-1, 5, 0}, {-100, -300, 0},
		{1 << 40, 1 << 39, 128}, {1 << 60, 1 << 58, 192},
	} {
		for _, a := range []api.Standing{{}, {Expected: 100, Received: 90}, {Expected: 7, Received: 1000}, {Expected: -50, Received: -3}} {
			b := api.Standing{Expected: a.Expected + c.expected, Received: a.Received + c.received}
			if got := report(t, api.Report{Fraction: 77}, a, b); got.Fraction != c.want {
				t.Errorf("%d expected, %d came since %+v: %d; want %d", c.expected, c.received, a, got.Fraction, c.want)
			}
		}
	}
}

// Each number of expected ones up to 600, each of lost ones.
func TestReportEachFraction(t *testing.T) {
	for expected := int64(-3); expected <= 600; expected++ {
		for received := int64(-3); received <= expected+3; received++ {
			want := byte(0)
			if missed := expected - received; expected > 0 && missed > 0 {
				want = byte(min(256*missed/expected, 255))
			}
			got := losses.Report(api.Report{}, api.Standing{Expected: 9, Received: 4}, api.Standing{Expected: 9 + expected, Received: 4 + received})
			if got.Fraction != want {
				t.Fatalf("%d expected, %d came: %d; want %d", expected, received, got.Fraction, want)
			}
		}
	}
}

// Standings at the edges of what they can be, all with all.
func TestReportAtTheEdges(t *testing.T) {
	edges := []int64{
		math.MinInt64, math.MinInt64 + 1, -1 << 62, -1 << 56, -1 << 32, -1<<23 - 1, -1 << 23, -256, -1,
		0, 1, 255, 256, 1<<23 - 1, 1 << 23, 1 << 32, 1 << 55, 1<<56 + 1, 1 << 62, math.MaxInt64 - 1, math.MaxInt64,
	}
	for _, expected := range edges {
		for _, received := range edges {
			for _, now := range edges {
				for _, came := range edges {
					report(t, api.Report{Source: 1}, api.Standing{Expected: expected, Received: received}, api.Standing{Expected: now, Received: came, High: now})
				}
			}
		}
	}
}

func TestReportByChance(t *testing.T) {
	r := rand.New(rand.NewSource(20))
	number := func() int64 { return int64(r.Uint64()) >> r.Intn(64) }
	for range 300000 {
		x := api.Report{Source: r.Uint32(), Fraction: byte(r.Int()), Lost: int32(r.Int()), High: r.Uint32(), Jitter: r.Uint32(), Last: r.Uint32(), Delay: r.Uint32()}
		a := api.Standing{Expected: number(), Received: number(), High: number(), Valid: r.Intn(2) == 0}
		b := api.Standing{Expected: number(), Received: number(), High: number(), Valid: r.Intn(2) == 0}
		if r.Intn(2) == 0 {
			b.Expected, b.Received = a.Expected+number()>>8, a.Received+number()>>8
		}
		report(t, x, a, b)
	}
}

// Layer 11 writes each.
func TestReportsMayBeWritten(t *testing.T) {
	for _, n := range []int64{0, 1 << 22, 1 << 23, 1 << 24, 1 << 40, math.MaxInt64} {
		for _, b := range []api.Standing{{Expected: n}, {Received: n}, {Expected: n, Received: n, High: n}} {
			x := losses.Report(api.Report{Source: 3}, api.Standing{}, b)
			if _, e := rtcp.Write([]api.Ctrl{{Kind: api.KindRR, Reports: []api.Report{x}}}); e != api.OK {
				t.Errorf("%+v: %+v: %d", b, x, e)
			}
		}
	}
}

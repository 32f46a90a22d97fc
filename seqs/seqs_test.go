package seqs_test

import (
	"math"
	"testing"

	"tenaille/seqs"
)

// bases: numbers of 16 bits at the edges of the wrap and of the sign, and some between.
var bases = []uint16{0, 1, 2, 255, 256, 4463, 12345, 32766, 32767, 32768, 32769, 50000, 65279, 65280, 65534, 65535}

// heights: greatest indexes where the likely index is held by no bound of int64.
func heights() []int64 {
	l := []int64{10, 40000, 70000, 100000, 1 << 48, 1<<48 - 1, 1<<48 + 12345, math.MaxInt64 - 32768}
	for _, edge := range []int64{32768, 65536, 2 * 65536, 65536 + 32768, 1 << 31, 1 << 32, 1 << 62} {
		for near := int64(-2); near <= 2; near++ {
			l = append(l, edge+near)
		}
	}
	for h := int64(0); h <= 3; h++ {
		l = append(l, h)
	}
	return l
}

// low: the low 16 bits of i, reckoned without conversion.
func low(i int64) uint16 {
	return uint16((i%65536 + 65536) % 65536)
}

// P2.1: Ahead, Later, Gone.

func TestAheadIsTheDifferenceWithASign(t *testing.T) {
	for _, a := range bases {
		for far := -32768; far <= 32767; far++ {
			b := low(int64(a) + int64(far))
			if got := seqs.Ahead(a, b); got != far {
				t.Fatalf("%d of %d: %d; want %d", b, a, got, far)
			}
		}
	}
}

func TestAheadTheOtherWayRound(t *testing.T) {
	for _, a := range bases {
		for b := range 65536 {
			there, back := seqs.Ahead(a, uint16(b)), seqs.Ahead(uint16(b), a)
			// Half a round has no opposite: it is behind either way.
			if there == -32768 && back != -32768 || there != -32768 && back != -there {
				t.Fatalf("%d and %d: %d there, %d back", a, b, there, back)
			}
		}
	}
}

func TestLaterIsAheadAboveZero(t *testing.T) {
	for _, a := range bases {
		for far := -32768; far <= 32767; far++ {
			b := low(int64(a) + int64(far))
			if got := seqs.Later(a, b); got != (far > 0) {
				t.Fatalf("%d is %d ahead of %d: %v", b, far, a, got)
			}
		}
	}
}

func TestGoneIsTheDifferenceWithASign(t *testing.T) {
	stamps := []uint32{0, 1, 2, 65535, 65536, 1<<31 - 1, 1 << 31, 1<<31 + 1, 0x12345678, 0xfedcba98, 1<<32 - 2, 1<<32 - 1}
	far := []int64{-1 << 31, -1<<31 + 1, -1<<31 + 2, 1<<31 - 2, 1<<31 - 1, -1 << 16, 1 << 16, 90000, -90000}
	for near := int64(-70000); near <= 70000; near += 7 {
		far = append(far, near)
	}
	for near := int64(-3); near <= 3; near++ {
		far = append(far, near, 32768+near, -32768+near, 1<<30+near)
	}
	for _, a := range stamps {
		for _, f := range far {
			b := uint32(((int64(a)+f)%(1<<32) + 1<<32) % (1 << 32))
			if got := seqs.Gone(a, b); int64(got) != f {
				t.Fatalf("%d of %d: %d; want %d", b, a, got, f)
			}
		}
	}
}

// P2.2: Index, Seq.

// Each number from h - 32767 to h + 32768 has a sequence number of its own, so that each of the 65536 is met once.
func TestIndexIsTheOneAroundTheGreatest(t *testing.T) {
	for _, h := range heights() {
		met := map[uint16]bool{}
		for far := int64(-32767); far <= 32768; far++ {
			seq, want := low(h+far), h+far
			if want < 0 {
				want += 65536
			}
			met[seq] = true
			if got := seqs.Index(h, seq); got != want {
				t.Fatalf("of %d, the greatest being %d: %d; want %d", seq, h, got, want)
			}
		}
		if len(met) != 65536 {
			t.Fatalf("around %d: %d sequence numbers", h, len(met))
		}
	}
}

// The edges of the choice: what is half a round away is above, never below.
func TestIndexHalfARoundAway(t *testing.T) {
	for _, c := range []struct {
		h    int64
		seq  uint16
		want int64
	}{
		{0, 32768, 32768},
		{0, 32769, 32769}, // from -32767, which is below 0
		{0, 65535, 65535}, // from -1
		{1, 32769, 32769},
		{32767, 65535, 65535},
		{32767, 0, 0},
		{32768, 0, 65536},
		{32768, 1, 1},
		{32766, 65535, 65535}, // from -1
		{100000, 34464 - 32768, 132768},
		{100000, 34464 - 32767, 67233},
	} {
		if got := seqs.Index(c.h, c.seq); got != c.want {
			t.Errorf("of %d, the greatest being %d: %d; want %d", c.seq, c.h, got, c.want)
		}
	}
}

func TestIndexWithoutAGreatestIsTheNumberItself(t *testing.T) {
	for _, h := range []int64{-1, -2, -32767, -32768, -65535, -65536, -65537, -1 << 48, math.MinInt64 + 1, math.MinInt64} {
		for seq := range 65536 {
			if got := seqs.Index(h, uint16(seq)); got != int64(seq) {
				t.Fatalf("of %d, the greatest being %d: %d", seq, h, got)
			}
		}
	}
}

// Where the likely index is above every int64, nothing is promised but that the call ends: it must still be an index of that sequence number.
func TestIndexWhereNoNumberIsLeftAbove(t *testing.T) {
	for _, h := range []int64{math.MaxInt64 - 32768, math.MaxInt64 - 32767, math.MaxInt64 - 32766, math.MaxInt64 - 5, math.MaxInt64 - 1, math.MaxInt64} {
		for seq := range 65536 {
			if got := seqs.Index(h, uint16(seq)); got < 0 || low(got) != uint16(seq) {
				t.Fatalf("of %d, the greatest being %d: %d", seq, h, got)
			}
		}
	}
}

func TestSeqIsTheLowBits(t *testing.T) {
	for _, high := range []int64{0, 1, 2, 3, 65535, 65536, 1<<32 - 1, 1<<47 - 1} {
		for seq := range int64(65536) {
			if got := seqs.Seq(high*65536 + seq); int64(got) != seq {
				t.Fatalf("of %d: %d", high*65536+seq, got)
			}
		}
	}
	if got := seqs.Seq(math.MaxInt64); got != 65535 {
		t.Error("of the greatest:", got)
	}
}

// What is below 0 is no index, and its low 16 bits are told.
func TestSeqBelowZero(t *testing.T) {
	for _, i := range []int64{-1, -2, -32768, -65535, -65536, -65537, -1 << 48, math.MinInt64, math.MinInt64 + 1} {
		if got := seqs.Seq(i); got != low(i) {
			t.Errorf("of %d: %d", i, got)
		}
	}
}

// P2.3: Index of an index's sequence number.

func TestIndexOfAnIndexsNumberIsThatIndex(t *testing.T) {
	below := []int64{-1, -2, -3, -100, -32766, -32767}
	above := []int64{math.MaxInt64 - 32767, math.MaxInt64 - 32766, math.MaxInt64 - 1, math.MaxInt64}
	for _, h := range append(append(heights(), below...), above...) {
		// Below 0 there is no index, and above the greatest int64 none that could be told.
		first, last := max(-32767, -h), int64(32767)
		if h > 0 {
			last = min(last, math.MaxInt64-h)
		}
		for far := first; far <= last; far++ {
			if got := seqs.Index(h, seqs.Seq(h+far)); got != h+far {
				t.Fatalf("of %d, the greatest being %d: %d", h+far, h, got)
			}
		}
	}
}

// A run of indexes is followed over many rounds, with gaps and late ones.
func TestIndexFollowsARun(t *testing.T) {
	h := int64(-1)
	i := int64(60000)
	for _, step := range []int64{1, 1, 5, -3, 1000, 32767, -32767, 20000, 30000, -10, 32000, 7} {
		for range 50 {
			if got := seqs.Index(h, seqs.Seq(i)); got != i {
				t.Fatalf("of %d, the greatest being %d: %d", i, h, got)
			}
			h = max(h, i)
			if i = h + step; i < 0 {
				t.Fatal("the run left the indexes")
			}
		}
	}
}

// The chapter's examples.
func TestExamples(t *testing.T) {
	if n := seqs.Ahead(65535, 1); n != 2 {
		t.Error(n)
	}
	for _, c := range []struct {
		h    int64
		seq  uint16
		want int64
	}{{70000, 4463, 70000 - 1}, {10, 65535, 65535}, {65530, 3, 65539}} {
		if n := seqs.Index(c.h, c.seq); n != c.want {
			t.Error(c.h, c.seq, n)
		}
	}
}

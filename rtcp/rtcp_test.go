package rtcp_test

import (
	"math/bits"
	"math/rand"
	"slices"
	"strings"
	"testing"
	"unicode/utf8"

	"tenaille/api"
	"tenaille/rtcp"
)

// P11.3: IsName, Nacked, Losses.

func TestIsNameOfEachLength(t *testing.T) {
	for _, sign := range []string{"!", "~", "a", "0", "@"} {
		for n := range 300 {
			if rtcp.IsName(strings.Repeat(sign, n)) != (n >= 1 && n <= 16) {
				t.Error(sign, n)
			}
		}
		if rtcp.IsName(strings.Repeat(sign, 1<<16+1)) {
			t.Error(sign)
		}
	}
}

func TestIsNameOfEachByte(t *testing.T) {
	for size := 1; size <= 16; size++ {
		b := []byte(strings.Repeat("n", size))
		for at := range b {
			for x := range 256 {
				b[at] = byte(x)
				if rtcp.IsName(string(b)) != (x >= 33 && x <= 126) {
					t.Error(size, at, x)
				}
			}
			b[at] = 'n'
		}
	}
}

func TestIsNameOfOtherSigns(t *testing.T) {
	for sign := rune(128); sign <= utf8.MaxRune; sign++ {
		if s := string(sign); rtcp.IsName(s) || rtcp.IsName("a"+s) || rtcp.IsName(s+"a") {
			t.Fatalf("%x", sign)
		}
	}
}

// modelNacked goes through all numbers that a loss could tell.
func modelNacked(l []api.Loss) []uint16 {
	var numbers []uint16
	for _, loss := range l {
		for behind := range 17 {
			if behind == 0 || int(loss.Bits)/(1<<(behind-1))%2 == 1 {
				numbers = append(numbers, uint16((int(loss.Seq)+behind)%65536))
			}
		}
	}
	return numbers
}

// modelLosses looks for each number among all that the last loss can tell.
func modelLosses(l []uint16) []api.Loss {
	var losses []api.Loss
next:
	for _, seq := range l {
		for behind := 1; behind <= 16 && len(losses) > 0; behind++ {
			last := &losses[len(losses)-1]
			if int(seq) == (int(last.Seq)+behind)%65536 {
				last.Bits |= uint16(1) << (behind - 1)
				continue next
			}
		}
		losses = append(losses, api.Loss{Seq: seq})
	}
	return losses
}

func TestNackedOfAllBits(t *testing.T) {
	for _, seq := range []uint16{0, 1, 5, 32767, 32768, 65519, 65520, 65528, 65535} {
		for x := range 1 << 16 {
			l := []api.Loss{{Seq: seq, Bits: uint16(x)}}
			got := rtcp.Nacked(l)
			if !slices.Equal(got, modelNacked(l)) || len(got) != 1+bits.OnesCount(uint(x)) {
				t.Fatal(l, got)
			}
		}
	}
	for seq := range 1 << 16 {
		if got := rtcp.Nacked([]api.Loss{{Seq: uint16(seq)}}); !slices.Equal(got, []uint16{uint16(seq)}) {
			t.Fatal(seq, got)
		}
	}
}

func TestNackedOfSeveral(t *testing.T) {
	for _, l := range [][]api.Loss{nil, {}} {
		if got := rtcp.Nacked(l); len(got) != 0 {
			t.Error(got)
		}
	}
	// In the order in which they are told, one that is told twice twice.
	l := []api.Loss{{Seq: 9, Bits: 3}, {Seq: 4, Bits: 0x8010}, {Seq: 9}, {Seq: 65535, Bits: 0x8001}}
	if got := rtcp.Nacked(l); !slices.Equal(got, []uint16{9, 10, 11, 4, 9, 20, 9, 65535, 0, 15}) {
		t.Error(got)
	}
	r := rand.New(rand.NewSource(3))
	for range 2000 {
		l := make([]api.Loss, r.Intn(60))
		for i := range l {
			l[i] = api.Loss{Seq: uint16(r.Uint32()), Bits: uint16(r.Uint32())}
		}
		was := slices.Clone(l)
		if got := rtcp.Nacked(l); !slices.Equal(got, modelNacked(l)) || !slices.Equal(l, was) {
			t.Fatal(l, got)
		}
	}
}

func TestLossesOfTwo(t *testing.T) {
	for _, first := range []uint16{0, 1, 100, 32768, 65519, 65520, 65535} {
		for second := range 1 << 16 {
			l := []uint16{first, uint16(second)}
			if got := rtcp.Losses(l); !slices.Equal(got, modelLosses(l)) {
				t.Fatal(l, got)
			}
		}
	}
}

func TestLossesOfSeveral(t *testing.T) {
	for _, c := range []struct {
		l    []uint16
		want []api.Loss
	}{
		{nil, nil},
		{[]uint16{}, nil},
		{[]uint16{7}, []api.Loss{{Seq: 7}}},
		{[]uint16{7, 7}, []api.Loss{{Seq: 7}, {Seq: 7}}},
		{[]uint16{7, 8, 8}, []api.Loss{{Seq: 7, Bits: 1}}},
		{[]uint16{7, 23}, []api.Loss{{Seq: 7, Bits: 0x8000}}},
		{[]uint16{7, 24}, []api.Loss{{Seq: 7}, {Seq: 24}}},
		{[]uint16{7, 6}, []api.Loss{{Seq: 7}, {Seq: 6}}},
		{[]uint16{7, 24, 8}, []api.Loss{{Seq: 7}, {Seq: 24}, {Seq: 8}}},
		{[]uint16{7, 12, 9}, []api.Loss{{Seq: 7, Bits: 0x12}}},
		{[]uint16{65530, 65535, 0, 10, 11}, []api.Loss{{Seq: 65530, Bits: 0x8030}, {Seq: 11}}},
		{[]uint16{0, 32768, 0}, []api.Loss{{Seq: 0}, {Seq: 32768}, {Seq: 0}}},
	} {
		if got := rtcp.Losses(c.l); !slices.Equal(got, c.want) {
			t.Error(c.l, got)
		}
	}
	r := rand.New(rand.NewSource(4))
	for range 5000 {
		l := make([]uint16, r.Intn(80))
		at := uint16(r.Uint32())
		for i := range l {
			at += uint16(r.Intn(24)) - 3
			l[i] = at
		}
		was := slices.Clone(l)
		if got := rtcp.Losses(l); !slices.Equal(got, modelLosses(l)) || !slices.Equal(l, was) {
			t.Fatal(l, got)
		}
	}
}

// P11.4: numbers that rise are told again by their losses.
func TestNackedOfLosses(t *testing.T) {
	r := rand.New(rand.NewSource(5))
	check := func(l []uint16) {
		t.Helper()
		losses := rtcp.Losses(l)
		if got := rtcp.Nacked(losses); !slices.Equal(got, l) {
			t.Fatal(l, losses, got)
		}
	}
	// All sets of numbers that are near each other.
	for set := range 1 << 18 {
		var l []uint16
		for n := range 18 {
			if set>>n&1 == 1 {
				l = append(l, uint16(65530+n))
			}
		}
		check(l)
	}
	for range 5000 {
		var l []uint16
		for at := r.Intn(100); at < 1<<16; at += 1 + r.Intn(1<<r.Intn(12)) {
			l = append(l, uint16(at))
			if r.Intn(500) == 0 {
				break
			}
		}
		check(l)
	}
	all := make([]uint16, 1<<16)
	for i := range all {
		all[i] = uint16(i)
	}
	check(all)
}

// Rule 5: what is told is new memory.
func TestLossesAndNackedAreNewMemory(t *testing.T) {
	l := []uint16{5, 6, 8, 40}
	first, second := rtcp.Losses(l), rtcp.Losses(l)
	clear(first[:cap(first)])
	clear(l)
	if !slices.Equal(second, []api.Loss{{Seq: 5, Bits: 5}, {Seq: 40}}) {
		t.Error(second)
	}
	numbers, again := rtcp.Nacked(second), rtcp.Nacked(second)
	clear(numbers[:cap(numbers)])
	clear(second)
	if !slices.Equal(again, []uint16{5, 6, 8, 40}) {
		t.Error(again)
	}
}

func TestExamples(t *testing.T) {
	if got := rtcp.Nacked([]api.Loss{{Seq: 5, Bits: 5}}); !slices.Equal(got, []uint16{5, 6, 8}) {
		t.Error(got)
	}
	if got := rtcp.Losses([]uint16{5, 6, 8}); !slices.Equal(got, []api.Loss{{Seq: 5, Bits: 5}}) {
		t.Error(got)
	}
}

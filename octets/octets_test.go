package octets_test

import (
	"bytes"
	"encoding/binary"
	"math"
	"math/big"
	"testing"
	"time"

	"tenaille/octets"
)

// numbers of each magnitude, those at the edges of each width among them.
func numbers() []uint64 {
	l := []uint64{0, 1, 258, 0x0123456789abcdef, 0xfedcba9876543210, math.MaxUint64 - 1, math.MaxUint64}
	for shift := 7; shift < 64; shift += 4 {
		l = append(l, 1<<shift-1, 1<<shift, 1<<shift+1)
	}
	return l
}

// withRoom is a copy of b with spare room behind it, which bears marks.
func withRoom(b []byte) []byte {
	whole := append(bytes.Clone(b), bytes.Repeat([]byte{0xee}, 32)...)
	return whole[:len(b)]
}

// checkUntouched: an answer shares nothing with what was handed in, and neither that nor its spare room was written to.
func checkUntouched(t *testing.T, name string, want []byte, call func(b []byte) []byte) {
	t.Helper()
	b := withRoom(want)
	first, second := call(b), call(b)
	copied := bytes.Clone(second)
	for i := range first {
		first[i] ^= 0xff
	}
	_ = append(first, 0x77)
	whole := b[:cap(b)]
	if !bytes.Equal(whole[:len(want)], want) || !bytes.Equal(whole[len(want):len(want)+32], bytes.Repeat([]byte{0xee}, 32)) {
		t.Errorf("%s: what was handed in is changed: %x", name, whole)
	}
	for i := range whole {
		whole[i] ^= 0x55
	}
	if !bytes.Equal(second, copied) {
		t.Errorf("%s: the answer shares memory: %x", name, second)
	}
}

// P1.1: Num.

func TestNumIsTheBytesGreatestFirst(t *testing.T) {
	b := []byte{0x81, 2, 0, 0xff, 5, 6, 7, 8, 9, 0xfa, 11, 12}
	for size := range len(b) + 1 {
		for at := range size + 1 {
			for n := 1; n <= 8 && at+n <= size; n++ {
				want := new(big.Int).SetBytes(b[at : at+n]).Uint64()
				if x, ok := octets.Num(b[:size], at, n); !ok || x != want {
					t.Errorf("%d bytes at %d of %d: %x, %v; want %x", n, at, size, x, ok, want)
				}
			}
		}
	}
}

func TestNumRefusesWhatIsNotThere(t *testing.T) {
	b := withRoom([]byte{1, 2, 3, 4, 5, 6, 7, 8, 9, 10})
	for n := -20; n <= 20; n++ {
		for at := -20; at <= 20; at++ {
			there := n >= 1 && n <= 8 && at >= 0 && at+n <= len(b)
			if x, ok := octets.Num(b, at, n); ok != there || !ok && x != 0 {
				t.Errorf("%d bytes at %d: %x, %v", n, at, x, ok)
			}
		}
	}
	far := []int{math.MinInt, math.MinInt + 1, math.MinInt32, -1, math.MaxInt32, math.MaxInt - 8, math.MaxInt - 1, math.MaxInt}
	for _, f := range far {
		for n := -1; n <= 10; n++ {
			if x, ok := octets.Num(b, f, n); ok || x != 0 {
				t.Errorf("%d bytes at %d: %x, %v", n, f, x, ok)
			}
		}
		for _, at := range append(far, 0, 1, 9, 10) {
			if x, ok := octets.Num(b, at, f); ok || x != 0 {
				t.Errorf("%d bytes at %d: %x, %v", f, at, x, ok)
			}
		}
	}
	if x, ok := octets.Num(nil, 0, 1); ok || x != 0 {
		t.Error("of nothing:", x, ok)
	}
}

// P1.2: Put.

func TestPutIsTheLowBytesBehind(t *testing.T) {
	for _, head := range [][]byte{nil, {}, {7}, {1, 2, 3}, bytes.Repeat([]byte{9}, 100)} {
		for _, x := range numbers() {
			eight := binary.BigEndian.AppendUint64(nil, x)
			for n := 1; n <= 8; n++ {
				want := append(bytes.Clone(head), eight[8-n:]...)
				if got := octets.Put(head, n, x); !bytes.Equal(got, want) {
					t.Errorf("%d bytes of %x behind %x: %x", n, x, head, got)
				}
			}
		}
	}
}

func TestPutOfNoWidthIsWhatWasThere(t *testing.T) {
	for _, n := range []int{math.MinInt, -8, -1, 0, 9, 10, 16, math.MaxInt} {
		for _, head := range [][]byte{nil, {}, {7}, {1, 2, 3}} {
			if got := octets.Put(head, n, math.MaxUint64); !bytes.Equal(got, head) {
				t.Errorf("%d bytes behind %x: %x", n, head, got)
			}
		}
	}
}

func TestPutIsNewMemory(t *testing.T) {
	for n := -1; n <= 10; n++ {
		for _, head := range [][]byte{nil, {1}, {1, 2, 3, 4, 5}} {
			checkUntouched(t, "Put", head, func(b []byte) []byte { return octets.Put(b, n, 0x0102030405060708) })
		}
	}
	base := withRoom([]byte{1, 2})
	a, b := octets.Put(base, 2, 0x0304), octets.Put(base, 2, 0x0506)
	if !bytes.Equal(a, []byte{1, 2, 3, 4}) || !bytes.Equal(b, []byte{1, 2, 5, 6}) {
		t.Errorf("two answers share memory: %x, %x", a, b)
	}
}

// P1.3: Sat, Same, Fill.

func TestSatIsTheSumHeld(t *testing.T) {
	most := new(big.Int).SetUint64(math.MaxUint64)
	for _, a := range numbers() {
		for _, b := range numbers() {
			sum := new(big.Int).Add(new(big.Int).SetUint64(a), new(big.Int).SetUint64(b))
			if sum.Cmp(most) > 0 {
				sum = most
			}
			if got := octets.Sat(a, b); got != sum.Uint64() {
				t.Errorf("%d and %d: %d", a, b, got)
			}
		}
		if got := octets.Sat(a, math.MaxUint64-a); got != math.MaxUint64 {
			t.Errorf("%d and what lacks: %d", a, got)
		}
	}
}

func TestSameOfSameBytes(t *testing.T) {
	for size := range 40 {
		a := make([]byte, size)
		for i := range a {
			a[i] = byte(i * 37)
		}
		if !octets.Same(a, bytes.Clone(a)) || !octets.Same(a, a) || !octets.Same(withRoom(a), a) {
			t.Errorf("the same %d bytes aren't", size)
		}
	}
	if !octets.Same(nil, nil) || !octets.Same(nil, []byte{}) || !octets.Same([]byte{}, nil) {
		t.Error("nil and empty aren't the same")
	}
}

func TestSameOfOneBitThatDiffers(t *testing.T) {
	for size := 1; size < 40; size++ {
		a := bytes.Repeat([]byte{0xa5}, size)
		for bit := range 8 * size {
			b := bytes.Clone(a)
			b[bit/8] ^= 1 << (bit % 8)
			if octets.Same(a, b) || octets.Same(b, a) {
				t.Errorf("the bit %d of %d bytes differs, and is the same", bit, size)
			}
		}
	}
}

// Differences in several places must not make up for each other, as they would in a sum.
func TestSameOfSeveralThatDiffer(t *testing.T) {
	for d := 1; d < 256; d++ {
		a := []byte{byte(d), 7, byte(256 - d)}
		for _, b := range [][]byte{{0, 7, 0}, {byte(256 - d), 7, byte(d + 1)}, {^byte(d), 7, ^byte(256 - d)}} {
			if octets.Same(a, b) || octets.Same(b, a) {
				t.Errorf("%x and %x are the same", a, b)
			}
		}
		if octets.Same(bytes.Repeat([]byte{byte(d)}, 256), make([]byte, 256)) {
			t.Errorf("256 bytes %x and zeros are the same", d)
		}
	}
}

func TestSameOfUnlikeLengths(t *testing.T) {
	for _, fill := range []byte{0, 1, 0xff} {
		whole := bytes.Repeat([]byte{fill}, 600)
		for _, long := range []int{1, 2, 10, 256, 257, 512, 600} {
			for _, short := range []int{0, 1, 9, 255, 256, 344, 511, 599} {
				if short < long && (octets.Same(whole[:long], whole[:short]) || octets.Same(whole[:short], whole[:long])) {
					t.Errorf("%d and %d bytes %x are the same", long, short, fill)
				}
			}
		}
	}
}

// How long a call takes at best hangs on how many bytes it looks at: one that stopped at the first difference would take next to nothing.
func TestSameLooksAtAllBytes(t *testing.T) {
	const size = 1 << 20
	a := make([]byte, size)
	differing := func(at int) []byte {
		b := bytes.Clone(a)
		b[at] = 1
		return b
	}
	cases := []struct {
		name string
		b    []byte
	}{
		{"the same", bytes.Clone(a)},
		{"the first differs", differing(0)},
		{"the second differs", differing(1)},
		{"the last differs", differing(size - 1)},
		{"the last lacks", a[:size-1]},
		{"most lack", a[:1]},
	}
	best := make([]time.Duration, len(cases))
	for round := range 20 {
		for i, c := range cases {
			begun := time.Now()
			same := octets.Same(a, c.b)
			took := time.Since(begun)
			if same != (i == 0) {
				t.Errorf("%s: %v", c.name, same)
			}
			if round == 0 || took < best[i] {
				best[i] = took
			}
		}
	}
	for i, c := range cases {
		if best[i]*10 < best[0] {
			t.Errorf("%s: %v, but of all the same %v", c.name, best[i], best[0])
		}
	}
}

func TestFillIsZerosBehind(t *testing.T) {
	for size := range 40 {
		b := withRoom(bytes.Repeat([]byte{0xcc}, size))
		for n := 1; n <= 45; n++ {
			got := octets.Fill(b, n)
			if len(got)%n != 0 || len(got) < size || len(got) >= size+n {
				t.Fatalf("%d bytes to what %d divides: %d", size, n, len(got))
			}
			if !bytes.Equal(got[:size], b) || !bytes.Equal(got[size:], make([]byte, len(got)-size)) {
				t.Errorf("%d bytes to what %d divides: %x", size, n, got)
			}
		}
	}
}

func TestFillBelowOneIsWhatWasThere(t *testing.T) {
	for _, n := range []int{math.MinInt, -4, -1, 0} {
		for _, b := range [][]byte{nil, {}, {7}, {1, 2, 3}} {
			if got := octets.Fill(b, n); !bytes.Equal(got, b) {
				t.Errorf("%x to what %d divides: %x", b, n, got)
			}
		}
	}
}

func TestFillIsNewMemory(t *testing.T) {
	for n := -1; n <= 10; n++ {
		for _, head := range [][]byte{nil, {1}, {1, 2, 3, 4}} {
			checkUntouched(t, "Fill", head, func(b []byte) []byte { return octets.Fill(b, n) })
		}
	}
}

// Beyond what an answer may have nothing is promised but that the call ends.
func TestFillEndsWhereNoAnswerHasRoom(t *testing.T) {
	for _, n := range []int{math.MaxInt, math.MaxInt - 1, math.MaxInt/2 + 1} {
		if got := octets.Fill([]byte{1, 2, 3}, n); !bytes.Equal(got, []byte{1, 2, 3}) {
			t.Errorf("to what %d divides: %d bytes", n, len(got))
		}
		if got := octets.Fill(nil, n); len(got) != 0 {
			t.Errorf("nothing to what %d divides: %d bytes", n, len(got))
		}
	}
}

// P1.4: what was put is the number there.

func TestWhatWasPutIsTheNumberThere(t *testing.T) {
	for _, head := range [][]byte{nil, {0xff}, {1, 2, 3}, bytes.Repeat([]byte{0xaa}, 1200)} {
		for _, x := range numbers() {
			for n := 1; n <= 8; n++ {
				low := x << (64 - 8*n) >> (64 - 8*n)
				b := octets.Put(head, n, x)
				if got, ok := octets.Num(b, len(head), n); !ok || got != low {
					t.Errorf("%d bytes of %x at %d: %x, %v", n, x, len(head), got, ok)
				}
			}
		}
	}
}

func TestSeveralThatWerePutAreThere(t *testing.T) {
	var b []byte
	for n := 1; n <= 8; n++ {
		b = octets.Put(b, n, 0xf1f2f3f4f5f6f7f8+uint64(n))
	}
	at := 0
	for n := 1; n <= 8; n++ {
		want := (0xf1f2f3f4f5f6f7f8 + uint64(n)) << (64 - 8*n) >> (64 - 8*n)
		if got, ok := octets.Num(b, at, n); !ok || got != want {
			t.Errorf("%d bytes at %d: %x, %v; want %x", n, at, got, ok, want)
		}
		at += n
	}
	if at != len(b) {
		t.Error(len(b), "bytes")
	}
}

// The chapter's examples.
func TestExamples(t *testing.T) {
	if got := octets.Put(nil, 2, 258); !bytes.Equal(got, []byte{1, 2}) {
		t.Error(got)
	}
	if x, ok := octets.Num([]byte{1, 2, 3}, 1, 2); x != 515 || !ok {
		t.Error(x, ok)
	}
	if x := octets.Sat(math.MaxUint64, 1); x != math.MaxUint64 {
		t.Error(x)
	}
}

package sha_test

import (
	"bytes"
	"crypto/sha1"
	"encoding/hex"
	"math/rand"
	"strings"
	"testing"

	"tenaille/sha"
)

// known: sums that are printed in the chapter, in FIPS 180 and in RFC 3174.
var known = []struct{ message, sum string }{
	{"", "da39a3ee5e6b4b0d3255bfef95601890afd80709"},
	{"abc", "a9993e364706816aba3e25717850c26c9cd0d89d"},
	{"abcdbcdecdefdefgefghfghighijhijkijkljklmklmnlmnomnopnopq", "84983e441c3bd26ebaae4aa1f95129e5e54670f1"},
	{"abcdefghbcdefghicdefghijdefghijkefghijklfghijklmghijklmnhijklmnoijklmnopjklmnopqklmnopqrlmnopqrsmnopqrstnopqrstu", "a49b2446a02c645bf419f995b67091253a04a259"},
	{"a", "86f7e437faa5a7fce15d1ddcb9eaeaea377667b8"},
	{strings.Repeat("0123456701234567012345670123456701234567012345670123456701234567", 10), "dea356a2cddd90c7a7ecedc5ebb563934f460452"},
	{strings.Repeat("a", 1000000), "34aa973cd4c4daa4f61eeb2bdbad27316534016f"},
}

// edges: lengths about the ends of blocks, where what closes a message needs a block more, and where its number of bits needs a byte more.
var edges = []int{0, 1, 2, 31, 32, 33, 54, 55, 56, 57, 62, 63, 64, 65, 118, 119, 120, 121, 127, 128, 129, 191, 192, 8191, 8192, 8193, 1<<21 - 1, 1 << 21, 1<<21 + 1}

// message: n bytes that look like chance, the same ones each time.
func message(n int) []byte {
	b := make([]byte, n)
	rand.New(rand.NewSource(int64(n))).Read(b)
	return b
}

// cut: b in pieces whose lengths go round through sizes.
func cut(b []byte, sizes ...int) [][]byte {
	var pieces [][]byte
	for i := 0; len(b) > 0; i++ {
		n := min(sizes[i%len(sizes)], len(b))
		pieces = append(pieces, b[:n])
		b = b[n:]
	}
	return pieces
}

// written: a sum under way to which the pieces were written.
func written(pieces ...[]byte) *sha.State {
	s := sha.New()
	for _, p := range pieces {
		s.Write(p)
	}
	return s
}

// want fails the test where got isn't the sum of b.
func want(t *testing.T, what string, got [20]byte, b []byte) {
	t.Helper()
	if w := sha1.Sum(b); got != w {
		t.Errorf("%s, %d bytes: %x; want %x", what, len(b), got, w)
	}
}

// P3.1: Sum.

func TestSumOfKnownMessages(t *testing.T) {
	for _, k := range known {
		got := sha.Sum([]byte(k.message))
		if hex.EncodeToString(got[:]) != k.sum {
			t.Errorf("%.60q: %x; want %s", k.message, got, k.sum)
		}
	}
}

func TestSumOfEveryShortLength(t *testing.T) {
	for n := range 400 {
		want(t, "Sum", sha.Sum(message(n)), message(n))
	}
}

func TestSumAtTheEdges(t *testing.T) {
	for _, n := range edges {
		want(t, "Sum", sha.Sum(message(n)), message(n))
	}
}

func TestSumOfEqualBytes(t *testing.T) {
	for _, x := range []byte{0, 1, 127, 128, 255} {
		for _, n := range edges {
			b := bytes.Repeat([]byte{x}, n)
			want(t, "Sum", sha.Sum(b), b)
		}
	}
}

func TestSumOfNoParts(t *testing.T) {
	for i, got := range [][20]byte{sha.Sum(), sha.Sum(nil), sha.Sum([]byte{}), sha.Sum(nil, []byte{}, nil), sha.Sum([][]byte{}...), sha.Sum([][]byte(nil)...)} {
		if hex.EncodeToString(got[:]) != known[0].sum {
			t.Errorf("%d: %x", i, got)
		}
	}
}

func TestSumOfPartsIsOfTheirBytesInOrder(t *testing.T) {
	a, b, c := message(70), message(3), message(64)
	want(t, "three parts", sha.Sum(a, b, c), bytes.Join([][]byte{a, b, c}, nil))
	want(t, "turned round", sha.Sum(c, b, a), bytes.Join([][]byte{c, b, a}, nil))
	want(t, "with empty ones", sha.Sum(nil, a, []byte{}, b, nil, c, nil), bytes.Join([][]byte{a, b, c}, nil))
	want(t, "one part twice", sha.Sum(a, a), bytes.Join([][]byte{a, a}, nil))
	many := make([][]byte, 1000)
	for i := range many {
		many[i] = []byte{byte(i), byte(i >> 8)}
	}
	want(t, "many", sha.Sum(many...), bytes.Join(many, nil))
}

func TestSumChangesNoPart(t *testing.T) {
	room := message(200)
	parts := [][]byte{room[:70:90], nil, room[100:103]}
	sha.Sum(parts...)
	if !bytes.Equal(room, message(200)) {
		t.Error("the parts' bytes, or what is behind them, have changed")
	}
	if len(parts[0]) != 70 || cap(parts[0]) != 90 || parts[1] != nil || len(parts[2]) != 3 {
		t.Error("the list of parts has changed")
	}
}

// P3.2: New, Write, Done, Size.

func TestNewIsOfNothing(t *testing.T) {
	s := sha.New()
	if s == nil {
		t.Fatal("none")
	}
	want(t, "New", s.Done(), nil)
	if s.Size() != 0 {
		t.Error(s.Size())
	}
}

func TestWriteOfNothing(t *testing.T) {
	s := sha.New()
	for range 3 {
		s.Write(nil)
		s.Write([]byte{})
	}
	want(t, "nothing", s.Done(), nil)
	s.Write([]byte("abc"))
	s.Write(nil)
	s.Write([]byte{})
	want(t, "abc and nothing", s.Done(), []byte("abc"))
	if s.Size() != 3 {
		t.Error(s.Size())
	}
}

func TestWriteOfKnownMessages(t *testing.T) {
	for _, k := range known {
		got := written([]byte(k.message)).Done()
		if hex.EncodeToString(got[:]) != k.sum {
			t.Errorf("%.60q: %x; want %s", k.message, got, k.sum)
		}
	}
}

func TestDoneGoesOnAsIfNotAsked(t *testing.T) {
	all := message(300)
	s := sha.New()
	for i := range all {
		want(t, "so far", s.Done(), all[:i])
		want(t, "asked again", s.Done(), all[:i])
		if s.Size() != i {
			t.Fatalf("%d bytes: Size %d", i, s.Size())
		}
		s.Write(all[i : i+1])
	}
	want(t, "all", s.Done(), all)
}

func TestSizeIsAllThatWasWritten(t *testing.T) {
	s, size := sha.New(), 0
	for _, n := range edges {
		s.Write(make([]byte, n))
		size += n
		if s.Size() != size {
			t.Fatalf("behind %d more: %d; want %d", n, s.Size(), size)
		}
	}
	s.Done()
	if s.Size() != size {
		t.Errorf("behind Done: %d; want %d", s.Size(), size)
	}
}

func TestNilIsOfNothing(t *testing.T) {
	var s *sha.State
	for range 2 {
		want(t, "nil", s.Done(), nil)
		if s.Size() != 0 {
			t.Error(s.Size())
		}
		s.Write([]byte("abc"))
		s.Write(nil)
		s.Write(message(200))
	}
}

func TestZeroStateIsOfNothing(t *testing.T) {
	var s sha.State
	want(t, "zero", s.Done(), nil)
	s.Write(message(130))
	want(t, "zero, written to", s.Done(), message(130))
	if s.Size() != 130 {
		t.Error(s.Size())
	}
}

func TestWriteKeepsNoneOfItsArgument(t *testing.T) {
	for _, n := range []int{1, 40, 63, 64, 65, 200} {
		b := message(n)
		s := written(b)
		if !bytes.Equal(b, message(n)) {
			t.Errorf("%d bytes: changed", n)
		}
		clear(b)
		want(t, "the argument cleared", s.Done(), message(n))
	}
}

func TestWriteChangesNoSpareRoom(t *testing.T) {
	room := message(300)
	s := sha.New()
	for _, at := range []int{0, 10, 100, 180} {
		s.Write(room[at : at+70])
		s.Done()
	}
	if !bytes.Equal(room, message(300)) {
		t.Error("bytes have changed")
	}
}

func TestAnswersShareNothing(t *testing.T) {
	s := written([]byte("abc"))
	a := s.Done()
	clear(a[:])
	want(t, "the first answer cleared", s.Done(), []byte("abc"))
	want(t, "another sum of it", sha.Sum([]byte("abc")), []byte("abc"))
}

func TestStatesAreApart(t *testing.T) {
	a, b := sha.New(), sha.New()
	all := message(200)
	for i := range all {
		a.Write(all[i : i+1])
		b.Write([]byte{all[i], all[i]})
		want(t, "one of two", a.Done(), all[:i+1])
	}
	if a.Size() != 200 || b.Size() != 400 {
		t.Error(a.Size(), b.Size())
	}
	want(t, "a third", sha.New().Done(), nil)
}

// P3.3: however a message is cut.

func TestCutInTwoAtEveryPlace(t *testing.T) {
	for _, n := range []int{1, 55, 56, 63, 64, 65, 119, 120, 128, 200} {
		all := message(n)
		for at := range n + 1 {
			want(t, "Sum of two", sha.Sum(all[:at], all[at:]), all)
			want(t, "Write of two", written(all[:at], all[at:]).Done(), all)
		}
	}
}

func TestCutInThreeAtEveryPlace(t *testing.T) {
	all := message(130)
	sum := sha1.Sum(all)
	for i := range len(all) + 1 {
		for j := i; j <= len(all); j++ {
			if sha.Sum(all[:i], all[i:j], all[j:]) != sum || written(all[:i], all[i:j], all[j:]).Done() != sum {
				t.Fatalf("cut at %d and %d", i, j)
			}
		}
	}
}

func TestCutInPiecesOfOneLength(t *testing.T) {
	all := message(1000)
	for n := 1; n <= 300; n++ {
		pieces := cut(all, n)
		want(t, "Sum", sha.Sum(pieces...), all)
		want(t, "Write", written(pieces...).Done(), all)
	}
}

func TestCutByChance(t *testing.T) {
	r := rand.New(rand.NewSource(3))
	for range 300 {
		all := message(r.Intn(3000))
		sizes := make([]int, 1+r.Intn(9))
		for i := range sizes {
			sizes[i] = r.Intn(150)
		}
		pieces := cut(all, append(sizes, 1)...)
		want(t, "Sum", sha.Sum(pieces...), all)
		s := written(pieces...)
		want(t, "Write", s.Done(), all)
		if s.Size() != len(all) {
			t.Fatalf("%d bytes: Size %d", len(all), s.Size())
		}
	}
}

// A number of bits above 2^32 needs more than four bytes.
func TestLongMessageInPieces(t *testing.T) {
	if testing.Short() {
		t.Skip("512 MiB")
	}
	piece := message(1<<20 - 1)
	s, w := sha.New(), sha1.New()
	for s.Size() < 1<<29 {
		s.Write(piece)
		w.Write(piece)
	}
	if got := s.Done(); !bytes.Equal(got[:], w.Sum(nil)) {
		t.Errorf("%d bytes: %x; want %x", s.Size(), got, w.Sum(nil))
	}
}

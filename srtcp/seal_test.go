package srtcp_test

import (
	"bytes"
	"encoding/hex"
	"math"
	"math/rand"
	"slices"
	"testing"

	"tenaille/api"
	"tenaille/rtcp"
	"tenaille/srtcp"
	"tenaille/srtp"
)

// P16.1: New, Used, High, Next.

func TestNewWasNotUsed(t *testing.T) {
	for _, limit := range []int{math.MinInt, -1, 0, 1, 2, 100, math.MaxInt} {
		for _, m := range []api.Master{{}, master()} {
			w := srtcp.New(m, limit)
			if w.Used() != 0 || w.Next() != 0 {
				t.Error(limit, w.Used(), w.Next())
			}
			for _, source := range []uint32{0, 1, math.MaxUint32} {
				if h := w.High(source); h != -1 {
					t.Error(limit, source, h)
				}
			}
		}
	}
}

func TestZeroWayMayNotBeUsed(t *testing.T) {
	var w srtcp.Way
	b := at(t, api.Master{}, 0, asks(1))
	if _, e := w.Seal([]api.Ctrl{asks(1)}); e != api.ErrKey {
		t.Error(e)
	}
	if _, _, e := w.Open(b); e != api.ErrKey {
		t.Error(e)
	}
	if w.Used() != 0 || w.Next() != 0 || w.High(1) != -1 {
		t.Error(w.Used(), w.Next(), w.High(1))
	}
}

// Both what is sealed and what is opened uses a way, up to its limit; what is sealed alone has it go on to the next index.
func TestUsedByBoth(t *testing.T) {
	for _, limit := range []int{-7, 0, 1, 2, 3, 8, 9, 12, 13} {
		c := newPair(t, master(), limit)
		for i := range int64(6) {
			c.seal(asks(7))
			c.open(at(t, master(), 100+i, asks(8)))
			// What is refused doesn't use it.
			c.seal()
			c.seal(api.Ctrl{Kind: api.KindBye})
			c.open(at(t, master(), 100+i, asks(8)))
			c.open(nil)
		}
		most := max(0, min(limit, 12))
		if c.way.Used() != most || c.way.Next() != int64(most+1)/2 {
			t.Error(limit, c.way.Used(), c.way.Next())
		}
	}
}

func TestHighIsOfWhatWasOpened(t *testing.T) {
	c := newPair(t, master(), 1000)
	// What is sealed has no part in the windows.
	for source := range uint32(20) {
		c.seal(asks(source))
		if h := c.way.High(source); h != -1 {
			t.Error(source, h)
		}
	}
	for _, i := range []int64{1000, 1001, 999, 1040, 1039, 977, 33000, 32999, 65536, 65535, 1 << 20, 1 << 30, 1<<31 - 10} {
		for _, source := range []uint32{0, 1, math.MaxUint32, 0x80000000} {
			index := i + int64(source%3)
			if e := c.open(at(t, master(), index, asks(source))); e != api.OK {
				t.Error(i, source, e)
			}
		}
	}
	if c.way.Next() != 20 || c.way.High(0) != 1<<31-10 || c.way.High(1) != 1<<31-9 || c.way.High(2) != -1 {
		t.Error(c.way.Next(), c.way.High(0), c.way.High(1), c.way.High(2))
	}
}

// P16.2: Seal.

// printed is a widely printed ciphered compound, by the master of RFC 3711 B.3: its source cafebabe, its index 1.
func printed() (api.Master, []byte) {
	var m api.Master
	hex.Decode(m.Key[:], []byte("e1f97a0d3e018be0d64fa32c06de4139"))
	hex.Decode(m.Salt[:], []byte("0ec675ad498afeebb6960b3aabe6"))
	b, _ := hex.DecodeString("81c8000bcafebabe7128035be487b9bdbef89041f977a5a880000001993e08cd54d6c1230798")
	return m, b
}

// What was ciphered there is bytes ab, which are no compound; so the stream is taken from it, and held against what ciphers another one.
func TestSealByThePrintedStream(t *testing.T) {
	m, b := printed()
	l := []api.Ctrl{told(0xCAFEBABE, 1)}
	plain, _ := rtcp.Write(l)
	w := srtcp.New(m, 2)
	w.Seal(l)
	x, e := w.Seal(l)
	if e != api.OK || !bytes.Equal(x[:8], plain[:8]) || !bytes.Equal(x[32:36], b[24:28]) {
		t.Fatalf("%x, %d", x, e)
	}
	for i := 8; i < 24; i++ {
		if x[i] != plain[i]^0xAB^b[i] {
			t.Errorf("%d: %x", i, x)
		}
	}
}

func TestSealOfEachKind(t *testing.T) {
	for _, m := range []api.Master{{}, master()} {
		c := newPair(t, m, 100)
		for _, source := range []uint32{0, 1, 0x01020304, math.MaxUint32} {
			for i, one := range each(source) {
				if b, e := c.seal(one); e != api.OK || len(b) < 22 {
					t.Error(i, source, e)
				}
			}
			c.seal(each(source)...)
		}
	}
}

// The head stays as it is, and all behind it is ciphered, that of other packets too.
func TestSealCiphersAllBehindTheHead(t *testing.T) {
	l := each(0xC0C1C2C3)
	plain, _ := rtcp.Write(l)
	w := srtcp.New(master(), 10)
	seen := make([]bool, len(plain))
	for range 10 {
		b, e := w.Seal(l)
		if e != api.OK || len(b) != len(plain)+14 || !bytes.Equal(b[:8], plain[:8]) {
			t.Fatalf("%x, %d", b, e)
		}
		for i := range plain {
			seen[i] = seen[i] || b[i] != plain[i]
		}
	}
	if slices.Contains(seen[:8], true) || slices.Contains(seen[8:], false) {
		t.Error(seen)
	}
}

func TestSealByEachBitOfTheSource(t *testing.T) {
	c := newPair(t, master(), 1000)
	for bit := range 32 {
		c.seal(told(1<<bit, 1))
	}
}

// The source is the bytes 4 to 7, whatever these are of: of a compound whose first packet has four bytes it is what the second begins with.
func TestSealByTheBytesFourToSeven(t *testing.T) {
	c := newPair(t, master(), 100)
	for i, l := range [][]api.Ctrl{
		{{Kind: api.KindBye}, told(9, 1)},
		{{Kind: api.KindSDES}, {Kind: api.KindBye}},
		{{Kind: api.KindBye}, {Kind: api.KindBye}},
		{{Kind: api.KindBye, Sources: []uint32{0x0A0B0C0D, 2}}},
		{{Kind: api.KindSDES, Names: []api.Named{{Source: 0x0A0B0C0D, Name: "x"}}}},
	} {
		plain, _ := rtcp.Write(l)
		b, e := c.seal(l...)
		if e != api.OK || !bytes.Equal(b[:8], plain[:8]) {
			t.Errorf("%d: %x, %d", i, b, e)
		}
		packets, source, e := srtcp.New(master(), 1).Open(b)
		want := uint32(plain[4])<<24 + uint32(plain[5])<<16 + uint32(plain[6])<<8 + uint32(plain[7])
		if e != api.OK || source != want || !alike(packets, l) {
			t.Error(i, packets, source, e)
		}
	}
}

func TestSealByEachBitOfTheMaster(t *testing.T) {
	seen := map[string]bool{}
	for bit := range 8 * 30 {
		b, _ := newPair(t, turnedMaster(bit), 1).seal(told(9, 1))
		seen[string(b[8:32])] = true
	}
	if len(seen) != 240 {
		t.Error("of 240 masters only so many cipher unlike:", len(seen))
	}
}

// Each index is its own, also where its lower bytes come round.
func TestSealByIndicesOneByOne(t *testing.T) {
	c := newPair(t, master(), math.MaxInt)
	seen := map[string]bool{}
	for i := range int64(65600) {
		if i >= 300 && i < 65500 {
			// These are sealed by the way alone, as the model is slow.
			c.way.Seal([]api.Ctrl{asks(5)})
			c.model.next++
			c.model.used++
			continue
		}
		b, e := c.seal(told(5, 1))
		if e != api.OK || c.way.Next() != i+1 || c.way.Used() != int(i+1) {
			t.Fatal(i, e, c.way.Next(), c.way.Used())
		}
		seen[string(b[8:32])] = true
	}
	if len(seen) != 400 {
		t.Error("of 400 indices only so many cipher unlike:", len(seen))
	}
}

func TestSealOfAllLengths(t *testing.T) {
	c := newPair(t, master(), math.MaxInt)
	for size := 8; size <= 1200; size += 4 {
		l := long(7, size)
		if plain, e := rtcp.Write(l); e != api.OK || len(plain) != size {
			t.Fatal(size, len(plain), e)
		}
		next := c.way.Next()
		b, e := c.seal(l...)
		if size <= 1184 && (e != api.OK || len(b) != size+14 || c.way.Next() != next+1) {
			t.Error(size, len(b), e)
		}
		if size > 1184 && (e != api.ErrArg || b != nil || c.way.Next() != next) {
			t.Error(size, len(b), e)
		}
	}
}

func TestSealRefusesPackets(t *testing.T) {
	c := newPair(t, master(), 1000)
	for i, l := range [][]api.Ctrl{
		nil, {},
		{{Kind: api.KindBye}}, {{Kind: api.KindSDES}}, // four bytes
		{{}}, {{Kind: 5}}, {{Kind: 199}}, {{Kind: 204}}, {{Kind: -1}},
		{asks(1), {}}, {asks(1), {Kind: api.KindPli, Rate: 1}},
		{{Kind: api.KindRR, Media: 1}}, {{Kind: api.KindNack}}, {{Kind: api.KindFir}},
		{told(1, 17)}, {{Kind: api.KindRemb, Rate: 1<<18 + 1}}, {{Kind: api.KindRemb, Rate: 1 << 63}},
		{{Kind: api.KindRR, Reports: []api.Report{{Lost: 1 << 23}}}}, {{Kind: api.KindSDES, Names: []api.Named{{}}}},
		slices.Repeat([]api.Ctrl{asks(1)}, 9),
		{told(1, 16), told(1, 16), told(1, 16)},              // 1176 bytes are no more than may be ..
		{told(1, 16), told(1, 16), told(1, 16), asks(1)},     // .. but 1188
		{told(1, 16), told(1, 16), told(1, 16), told(1, 1)},  // .. and 1208
		{told(1, 16), told(1, 16), told(1, 16), told(1, 16)}, // .. and more
	} {
		_, e := c.seal(l...)
		if (e == api.ErrArg) != (i != 20) || (e == api.OK) != (i == 20) {
			t.Error(i, e)
		}
	}
	if c.way.Used() != 1 || c.way.Next() != 1 {
		t.Error(c.way.Used(), c.way.Next())
	}
}

// A key that is used up is told ahead of what may not be.
func TestSealTellsTheKeyFirst(t *testing.T) {
	for _, limit := range []int{-1, 0, 2} {
		c := newPair(t, master(), limit)
		for range limit {
			if _, e := c.seal(asks(1)); e != api.OK {
				t.Error(limit, e)
			}
		}
		for i, l := range [][]api.Ctrl{{asks(1)}, nil, {{Kind: api.KindBye}}, {{Kind: 5}}, long(1, 1200)} {
			if b, e := c.seal(l...); e != api.ErrKey || b != nil {
				t.Error(limit, i, e)
			}
		}
		if c.way.Next() != int64(max(0, limit)) {
			t.Error(limit, c.way.Next())
		}
	}
}

func TestSealOfAnyPackets(t *testing.T) {
	r := rand.New(rand.NewSource(1))
	for range 40 {
		c := newPair(t, anyMaster(r), 80)
		for range 90 {
			c.seal(anyCompound(r, r.Uint32())...)
		}
	}
}

func TestSealSharesNothing(t *testing.T) {
	reports := make([]api.Report, 2, 20)
	sources := make([]uint32, 3, 20)
	l := append(make([]api.Ctrl, 0, 9), api.Ctrl{Kind: api.KindRR, Reports: reports}, api.Ctrl{Kind: api.KindBye, Sources: sources})
	w, again := srtcp.New(master(), 10), srtcp.New(master(), 10)
	a, _ := w.Seal(l)
	b, _ := again.Seal(l)
	other, _ := w.Seal(l)
	if !bytes.Equal(a, b) || bytes.Equal(a, other) {
		t.Errorf("%x, %x, %x", a, b, other)
	}
	if slices.ContainsFunc(reports[:20], func(x api.Report) bool { return x != api.Report{} }) ||
		slices.ContainsFunc(sources[:20], func(x uint32) bool { return x != 0 }) ||
		!alike(l[2:9], make([]api.Ctrl, 7)) {
		t.Error("what was handed in is written to")
	}
	was := bytes.Clone(other)
	for i := range a[:cap(a)] {
		a[:cap(a)][i] ^= 0xFF
	}
	reports[0].High, sources[0] = 7, 7
	if !bytes.Equal(other, was) {
		t.Error("an answer shares memory")
	}
	// What is kept isn't shared with an answer either.
	next, _ := w.Seal([]api.Ctrl{asks(1)})
	if !bytes.Equal(next, at(t, master(), 2, asks(1))) {
		t.Errorf("%x", next)
	}
}

// The keys are those of control, not those of media, of the same master.
func TestSealIsNotByTheKeysOfMedia(t *testing.T) {
	b, _ := srtcp.New(master(), 1).Seal([]api.Ctrl{told(5, 1)})
	if _, _, e := srtp.New(master(), 1).Open(b); e != api.ErrAuth {
		t.Error(e)
	}
}

package srtp_test

import (
	"bytes"
	"encoding/binary"
	"encoding/hex"
	"math"
	"math/rand"
	"testing"

	"tenaille/api"
	"tenaille/srtp"
)

// P15.1: New, Used, High, Sources.

func TestNewWasNotUsed(t *testing.T) {
	for _, limit := range []int{math.MinInt, -1, 0, 1, 2, 100, math.MaxInt} {
		for _, m := range []api.Master{{}, master()} {
			w := srtp.New(m, limit)
			if w.Used() != 0 || w.Sources() != 0 {
				t.Error(limit, w.Used(), w.Sources())
			}
			for _, source := range []uint32{0, 1, math.MaxUint32} {
				if h := w.High(source); h != -1 {
					t.Error(limit, source, h)
				}
			}
		}
	}
}

func TestZeroWayMayNotBeUsed(t *testing.T) {
	var w srtp.Way
	b := sealed(t, api.Master{}, packet(1, 1), 1)
	if _, e := w.Seal(packet(1, 1), 1); e != api.ErrKey {
		t.Error(e)
	}
	if _, _, e := w.Open(b); e != api.ErrKey {
		t.Error(e)
	}
	if w.Used() != 0 || w.Sources() != 0 || w.High(1) != -1 {
		t.Error(w.Used(), w.Sources(), w.High(1))
	}
}

// Both what is sealed and what is opened uses a way, up to its limit.
func TestUsedByBoth(t *testing.T) {
	for _, limit := range []int{-7, 0, 1, 2, 3, 8, 9} {
		c := newPair(t, master(), limit)
		for i := range int64(6) {
			from := int64(100 + i)
			c.seal(packet(7, i), i)
			c.open(sealed(t, master(), packet(8, from), from))
			// What is refused doesn't use it.
			c.seal(packet(7, i), i+1)
			c.open(sealed(t, master(), packet(8, from), from))
			c.open(nil)
		}
		if w := c.way.Used(); w != max(0, min(limit, 12)) {
			t.Error(limit, w)
		}
	}
}

func TestHighIsOfWhatWasOpened(t *testing.T) {
	c := newPair(t, master(), 1000)
	// What is sealed has no part in the windows.
	for i := range int64(20) {
		c.seal(packet(uint32(i), 5000+i), 5000+i)
	}
	if c.way.Sources() != 0 {
		t.Error(c.way.Sources())
	}
	for _, i := range []int64{1000, 1001, 999, 1040, 1039, 977, 33000, 32999, 65535, 65537, 65536, 65534, 98000} {
		for _, source := range []uint32{0, 1, math.MaxUint32, 0x80000000} {
			if e := c.open(sealed(t, master(), packet(source, i+int64(source%3)), i+int64(source%3))); e != api.OK {
				t.Error(i, source, e)
			}
		}
	}
	if c.way.Sources() != 4 || c.way.High(0) != 98000 || c.way.High(1) != 98001 || c.way.High(2) != -1 {
		t.Error(c.way.Sources(), c.way.High(0), c.way.High(1), c.way.High(2))
	}
}

// P15.2: Seal.

// A widely printed packet: the master of RFC 3711 B.3, the number 0x1234.
func TestSealPrinted(t *testing.T) {
	var m api.Master
	hex.Decode(m.Key[:], []byte("e1f97a0d3e018be0d64fa32c06de4139"))
	hex.Decode(m.Salt[:], []byte("0ec675ad498afeebb6960b3aabe6"))
	want, _ := hex.DecodeString("800f1234decafbadcafebabe4e55dc4ce79978d88ca4d215949d2402b78d6acc99ea179b8dbb")
	p := api.Rtp{Type: 15, Seq: 0x1234, Stamp: 0xDECAFBAD, Source: 0xCAFEBABE, Payload: bytes.Repeat([]byte{0xAB}, 16)}
	b, e := srtp.New(m, 1).Seal(p, 0x1234)
	if e != api.OK || !bytes.Equal(b, want) {
		t.Errorf("%x, %d", b, e)
	}
	q, i, e := srtp.New(m, 1).Open(want)
	if e != api.OK || i != 0x1234 || !alike(p, q) {
		t.Error(q, i, e)
	}
}

// indices at the edges of what one may be, and of the rounds.
func indices() []int64 {
	l := []int64{0, 1, 2, 32767, 32768, 65534, 65535, 65536, 65537, 131071, 131072}
	for bit := 17; bit < 48; bit++ {
		l = append(l, 1<<bit-1, 1<<bit, 1<<bit+0x1234)
	}
	return append(l, 0x0123456789AB, 0xFEDCBA987654, 1<<48-2, 1<<48-1)
}

func TestSealByAllIndices(t *testing.T) {
	for _, m := range []api.Master{{}, master()} {
		c := newPair(t, m, math.MaxInt)
		for _, i := range indices() {
			for _, p := range []api.Rtp{packet(0, i), packet(5, i), full(i)} {
				if b, e := c.seal(p, i); e != api.OK || len(b) < 22 {
					t.Error(i, e)
				}
			}
		}
	}
}

func TestSealByEachBitOfTheSource(t *testing.T) {
	c := newPair(t, master(), 1000)
	for bit := range 32 {
		c.seal(packet(1<<bit, 70000), 70000)
	}
}

func TestSealByEachBitOfTheMaster(t *testing.T) {
	seen := map[string]bool{}
	for bit := range 8 * 30 {
		b, _ := newPair(t, turnedMaster(bit), 1).seal(packet(9, 70000), 70000)
		seen[string(b[12:23])] = true
	}
	if len(seen) != 240 {
		t.Error("of 240 masters only so many cipher unlike:", len(seen))
	}
}

// The header stays as it is, the padding is ciphered, and nothing but the tag is behind it.
func TestSealOfAllLengths(t *testing.T) {
	c := newPair(t, master(), math.MaxInt)
	for size := range 1201 {
		for _, pad := range []byte{0, 1, 20} {
			p := api.Rtp{Seq: 9, Source: 3, Payload: bytes.Repeat([]byte{0x5A}, size), Pad: pad}
			b, e := c.seal(p, 65536+9)
			whole := 12 + size + int(pad) + 10
			if (e == api.OK) != (whole <= 1200) || (e == api.ErrArg) != (whole > 1200) {
				t.Error(size, pad, e)
			}
			if e == api.OK && len(b) != whole {
				t.Error(size, pad, len(b))
			}
		}
	}
}

func TestSealOfAllHeaders(t *testing.T) {
	c := newPair(t, master(), math.MaxInt)
	for others := range 18 {
		for words := -1; words < 260; words += 1 + others%3*7 {
			p := packet(3, 77)
			p.Others = make([]uint32, others)
			if words >= 0 {
				p.Ext, p.Profile, p.Extra = true, 0x1000, bytes.Repeat([]byte{byte(words)}, 4*words)
			}
			if _, e := c.seal(p, 77); (e == api.OK) != (others <= 15 && words <= 255) {
				t.Error(others, words, e)
			}
		}
	}
	for kind := range 256 {
		p := packet(3, 77)
		p.Type = byte(kind)
		if _, e := c.seal(p, 77); (e == api.OK) != (kind <= 127) {
			t.Error(kind, e)
		}
	}
}

func TestSealOfAnyPackets(t *testing.T) {
	r := rand.New(rand.NewSource(1))
	for range 40 {
		c := newPair(t, anyMaster(r), 150)
		for range 160 {
			i := r.Int63() >> (15 + r.Intn(48))
			c.seal(anyPacket(r, r.Uint32(), i), i)
		}
	}
}

func TestSealRefusesIndices(t *testing.T) {
	c := newPair(t, master(), 1000)
	for _, i := range []int64{math.MinInt64, -1 << 48, -65536, -65535, -1, 1 << 48, 1<<48 + 1, 1<<48 + 65535, 1 << 49, math.MaxInt64} {
		if _, e := c.seal(packet(1, i), i); e != api.ErrArg {
			t.Error(i, e)
		}
	}
	// An index of another number.
	for _, i := range indices() {
		for bit := range 16 {
			if _, e := c.seal(packet(1, i^1<<bit), i); e != api.ErrArg {
				t.Error(i, bit, e)
			}
		}
	}
	if c.way.Used() != 0 {
		t.Error(c.way.Used())
	}
}

func TestSealRefusesPackets(t *testing.T) {
	c := newPair(t, master(), 1000)
	for i, p := range []api.Rtp{
		{Type: 128}, {Type: 255}, {Others: make([]uint32, 16)}, {Extra: make([]byte, 4)}, {Profile: 1},
		{Ext: true, Extra: make([]byte, 3)}, {Ext: true, Extra: make([]byte, 1024)}, {Ext: true, Extra: make([]byte, 1020), Payload: make([]byte, 155)},
		{Payload: make([]byte, 1179)}, {Payload: make([]byte, 1188)}, {Payload: make([]byte, 1189)}, {Payload: make([]byte, 1<<20)},
		{Pad: 255, Payload: make([]byte, 924)}, {Others: make([]uint32, 15), Payload: make([]byte, 1119)},
	} {
		if _, e := c.seal(p, 0); e != api.ErrArg {
			t.Error(i, e)
		}
	}
	for i, p := range []api.Rtp{
		{}, {Type: 127}, {Payload: make([]byte, 1178)}, {Ext: true, Extra: make([]byte, 1020), Payload: make([]byte, 154)},
		{Pad: 255, Payload: make([]byte, 923)}, {Others: make([]uint32, 15), Payload: make([]byte, 1118)},
	} {
		if b, e := c.seal(p, 0); e != api.OK || i > 1 && len(b) != 1200 {
			t.Error(i, e)
		}
	}
}

// A key that is used up is told ahead of what may not be.
func TestSealTellsTheKeyFirst(t *testing.T) {
	c := newPair(t, master(), 2)
	for _, want := range []api.Errno{api.OK, api.OK, api.ErrKey, api.ErrKey} {
		if _, e := c.seal(packet(1, 1), 1); e != want {
			t.Error(e)
		}
	}
	for i, p := range []api.Rtp{{}, {Type: 128}, {Payload: make([]byte, 1200)}} {
		for _, index := range []int64{-1, 1, 1 << 48} {
			if _, e := c.seal(p, index); e != api.ErrKey {
				t.Error(i, index, e)
			}
		}
	}
}

func TestSealSharesNothing(t *testing.T) {
	payload, extra, others := make([]byte, 60, 200), make([]byte, 8, 100), make([]uint32, 2, 50)
	p := api.Rtp{Payload: payload, Ext: true, Extra: extra, Others: others}
	w := srtp.New(master(), 10)
	a, _ := w.Seal(p, 0)
	b, _ := w.Seal(p, 0)
	if !bytes.Equal(a, b) || !bytes.Equal(payload[:200], make([]byte, 200)) || !bytes.Equal(extra[:100], make([]byte, 100)) {
		t.Error("what was handed in is written to")
	}
	for _, x := range others[:50] {
		if x != 0 {
			t.Error("what was handed in is written to")
		}
	}
	was := bytes.Clone(b)
	for i := range a[:cap(a)] {
		a[:cap(a)][i] ^= 0xFF
	}
	for i := range payload {
		payload[i] = 7
	}
	if !bytes.Equal(b, was) {
		t.Error("an answer shares memory")
	}
}

// P15.3: Peek.

// checkPeek holds Peek against the model, and looks whether b is what it was.
func checkPeek(t *testing.T, b []byte) api.Errno {
	t.Helper()
	was := bytes.Clone(b)
	source, seq, code := modelPeek(b)
	s, n, e := srtp.Peek(b)
	if s != source || n != seq || e != code {
		t.Fatalf("Peek(%x): %d, %d, %d, asked for: %d, %d, %d", was, s, n, e, source, seq, code)
	}
	if !bytes.Equal(b, was) {
		t.Fatalf("%x has become %x", was, b)
	}
	return e
}

// counted is bytes that are all unlike those near them, behind a first one.
func counted(first byte, size int) []byte {
	b := make([]byte, size)
	for i := range b {
		b[i] = byte(3 * i)
	}
	if size > 0 {
		b[0] = first
	}
	return b
}

func TestPeekTellsSourceAndNumber(t *testing.T) {
	b := []byte{0x80, 0xE0, 1, 2, 3, 4, 5, 6, 7, 8, 9, 10, 0, 0, 0, 0, 0, 0, 0, 0, 0, 0}
	if s, n, e := srtp.Peek(b); s != 0x0708090A || n != 0x0102 || e != api.OK {
		t.Error(s, n, e)
	}
	for bit := range 8 * len(b) {
		b[bit/8] ^= 1 << (bit % 8)
		checkPeek(t, b)
		b[bit/8] ^= 1 << (bit % 8)
	}
}

func TestPeekAtAllFirstBytesOfAllLengths(t *testing.T) {
	for first := range 256 {
		for size := range 110 {
			checkPeek(t, counted(byte(first), size))
			b := make([]byte, size)
			if size > 0 {
				b[0] = byte(first)
			}
			checkPeek(t, b)
			// An extension of one word behind the other sources.
			if at := 12 + 4*(first&15) + 3; at < size {
				b[at] = 1
				checkPeek(t, b)
			}
		}
	}
}

func TestPeekAtLengths(t *testing.T) {
	for _, first := range []byte{0, 0x40, 0x80, 0x8F, 0x90, 0xA0, 0xFF} {
		for size := range 22 {
			// Fewer than 22 bytes are told ahead of what the first two bits are.
			if e := checkPeek(t, counted(first, size)); e != api.ErrShort {
				t.Error(first, size, e)
			}
		}
		for _, size := range []int{1201, 1202, 1300, 2400, 1 << 16, 1 << 20} {
			if e := checkPeek(t, counted(first, size)); e != api.ErrForm {
				t.Error(first, size, e)
			}
		}
		for size := 1180; size <= 1200; size++ {
			checkPeek(t, counted(first, size))
		}
	}
	if e := checkPeek(t, nil); e != api.ErrShort {
		t.Error(e)
	}
}

func TestPeekTellsFirstBitsAheadOfTheHeader(t *testing.T) {
	for low := range byte(64) {
		for _, two := range []byte{0, 0x40, 0xC0} {
			if e := checkPeek(t, counted(two|low, 22)); e != api.ErrForm {
				t.Error(two|low, e)
			}
		}
	}
}

// A header may reach up to the tag, but not into it.
func TestPeekAtHeadersUpToTheTag(t *testing.T) {
	for others := range 16 {
		for _, words := range []int{-1, 0, 1, 2, 100, 254, 255, 256, 257, 270, 293, 294, 1 << 14, 1<<16 - 1} {
			b := make([]byte, 1200)
			b[0] = 0x80 | byte(others)
			need := 12 + 4*others + 10
			if words >= 0 {
				b[0] |= 0x10
				binary.BigEndian.PutUint16(b[12+4*others+2:], uint16(words))
				need += 4 + 4*words
			}
			for _, size := range []int{need - 5, need - 4, need - 1, need, need + 1, 1200} {
				if size < 22 || size > 1200 {
					continue
				}
				e := checkPeek(t, b[:size])
				if (e == api.OK) != (size >= need) || (e == api.ErrShort) != (size < need) {
					t.Error(others, words, size, e)
				}
			}
		}
	}
}

func TestPeekAtSealed(t *testing.T) {
	r := rand.New(rand.NewSource(2))
	for range 2000 {
		i := r.Int63n(1 << 48)
		p := anyPacket(r, r.Uint32(), i)
		b := sealed(t, master(), p, i)
		if s, n, e := srtp.Peek(b); s != p.Source || n != p.Seq || e != api.OK {
			t.Fatal(s, n, e)
		}
		b[r.Intn(len(b))] = byte(r.Intn(256))
		checkPeek(t, b)
		checkPeek(t, b[:r.Intn(len(b)+1)])
	}
}

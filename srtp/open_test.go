package srtp_test

import (
	"bytes"
	"math"
	"math/rand"
	"testing"

	"tenaille/api"
	"tenaille/srtp"
)

// P15.4: Open.

func TestOpenTellsWhatWasSealed(t *testing.T) {
	for _, i := range []int64{0, 1, 32767, 32768, 65534, 65535} {
		for _, p := range []api.Rtp{packet(0, i), packet(math.MaxUint32, i), full(i)} {
			c := newPair(t, master(), 1)
			if e := c.open(sealed(t, master(), p, i)); e != api.OK {
				t.Error(i, e)
			}
		}
	}
}

func TestOpenOfAllLengths(t *testing.T) {
	c := newPair(t, master(), 2000)
	for size := range int64(1179) {
		p := api.Rtp{Seq: uint16(size), Source: 3, Payload: bytes.Repeat([]byte{0x5A}, int(size))}
		if e := c.open(sealed(t, master(), p, size)); e != api.OK {
			t.Error(size, e)
		}
	}
}

// climbed is a way, and its model, in which the source 5 has a highest index, and no other one near that.
func climbed(t *testing.T, to int64) pair {
	t.Helper()
	const step = 20000
	c := newPair(t, master(), math.MaxInt)
	for i := to % step; i <= to; i += step {
		if e := c.open(sealed(t, master(), packet(5, i), i)); e != api.OK {
			t.Fatal(i, e)
		}
	}
	return c
}

// What is sealed far ahead, or far behind, is taken for another index, and so isn't authentic.
func TestOpenByLikelyIndices(t *testing.T) {
	for _, h := range []int64{0, 63, 100, 32767, 32768, 65535, 65536, 65599, 65600, 98303, 131072, 200000, 1 << 22} {
		for _, by := range []int64{-65536, -32769, -32768, -32767, -64, -63, -62, -1, 0, 1, 63, 64, 65, 32767, 32768, 32769, 65535, 65536} {
			c := climbed(t, h)
			i := h + by
			if i < 0 {
				continue
			}
			e := c.open(sealed(t, master(), packet(5, i), i))
			// Below half a round what would be below 0 is taken for a round above, too.
			fits := by > 0 && by <= 32768 || by < 0 && by > -64
			if (e == api.OK) != fits && h > 32767 {
				t.Error(h, by, e)
			}
		}
	}
}

func TestOpenKeepsWindowsApart(t *testing.T) {
	c := newPair(t, master(), 1000)
	for i := range int64(8) {
		for source := range uint32(8) {
			at := 30000*i + 100*int64(source)
			if e := c.open(sealed(t, master(), packet(source, at), at)); e != api.OK {
				t.Error(source, at, e)
			}
		}
	}
}

func TestOpenOfTheWindowsEdge(t *testing.T) {
	for _, h := range []int64{64, 1000, 65536, 65580} {
		c := climbed(t, h)
		for below := int64(0); below < 70 && below <= h; below++ {
			b := sealed(t, master(), packet(5, h-below), h-below)
			want := api.OK
			if below == 0 || below >= 64 {
				want = api.ErrOld
			}
			if e := c.open(b); e != want {
				t.Error(h, below, e)
			}
			if e := c.open(b); e != api.ErrOld {
				t.Error(h, below, "again:", e)
			}
		}
	}
}

func TestOpenTellsPeeksErrorFirst(t *testing.T) {
	for _, limit := range []int{0, 1} {
		c := newPair(t, master(), limit)
		for first := range 256 {
			for size := range 40 {
				e := c.open(counted(byte(first), size))
				if _, _, want := modelPeek(counted(byte(first), size)); want != api.OK && e != want {
					t.Error(first, size, e)
				}
			}
			for _, size := range []int{1201, 5000} {
				if e := c.open(counted(byte(first), size)); e != api.ErrForm {
					t.Error(first, size, e)
				}
			}
		}
	}
}

func TestOpenTellsTheKeyAheadOfAllElse(t *testing.T) {
	c := newPair(t, master(), 8)
	var last []byte
	for source := range uint32(8) {
		last = sealed(t, master(), packet(source, 70), 70)
		if e := c.open(last); e != api.OK {
			t.Error(source, e)
		}
	}
	turned := bytes.Clone(last)
	turned[20] ^= 1
	for i, b := range [][]byte{last, turned, sealed(t, master(), packet(9, 70), 70), sealed(t, master(), packet(7, 71), 71)} {
		if e := c.open(b); e != api.ErrKey {
			t.Error(i, e)
		}
	}
}

func TestOpenHasRoomForEightSources(t *testing.T) {
	c := newPair(t, master(), 1000)
	for source := uint32(10); source < 18; source++ {
		if e := c.open(sealed(t, master(), packet(source, 70), 70)); e != api.OK || c.way.Sources() != int(source)-9 {
			t.Error(source, e, c.way.Sources())
		}
	}
	for _, source := range []uint32{0, 9, 18, math.MaxUint32} {
		// It is told ahead of a tag that isn't right.
		b := sealed(t, master(), packet(source, 70), 70)
		turned := bytes.Clone(b)
		turned[20] ^= 1
		if e := c.open(b); e != api.ErrFull || c.open(turned) != api.ErrFull {
			t.Error(source, e)
		}
	}
	// Those that have a window go on.
	for source := uint32(10); source < 18; source++ {
		if e := c.open(sealed(t, master(), packet(source, 71), 71)); e != api.OK {
			t.Error(source, e)
		}
	}
}

// Forgers can't make a way have sources.
func TestOpenOfForgedTakesNoRoom(t *testing.T) {
	c := newPair(t, master(), 1000)
	for source := range uint32(100) {
		b := sealed(t, master(), packet(source, 70), 70)
		b[len(b)-1] ^= 1
		if e := c.open(b); e != api.ErrAuth {
			t.Error(source, e)
		}
	}
	for source := range uint32(8) {
		if e := c.open(sealed(t, master(), packet(source, 70), 70)); e != api.OK {
			t.Error(source, e)
		}
	}
}

// What isn't fresh is told ahead of a tag that isn't right.
func TestOpenTellsOldAheadOfTheTag(t *testing.T) {
	c := climbed(t, 1000)
	for _, i := range []int64{1000, 936, 935, 1} {
		b := sealed(t, master(), packet(5, i), i)
		b[14] ^= 1
		if e := c.open(b); e != api.ErrOld {
			t.Error(i, e)
		}
	}
	b := sealed(t, master(), packet(5, 937), 937)
	b[14] ^= 1
	if e := c.open(b); e != api.ErrAuth {
		t.Error(e)
	}
}

// What is authentic, but no packet, is used and marked, with nothing else told.
func TestOpenOfWhatIsNoPacket(t *testing.T) {
	long := make([]byte, 12+4+256*4)
	long[0], long[14] = 0x90, 1
	for i, plain := range [][]byte{
		append([]byte{0xA0}, make([]byte, 11)...),            // padding of nothing
		append([]byte{0xA0}, make([]byte, 30)...),            // of 0 bytes
		append(append([]byte{0xA0}, make([]byte, 11)...), 2), // of more than there are
		append(append([]byte{0xA0}, make([]byte, 41)...), 32),
		append(append([]byte{0xB0}, make([]byte, 15)...), 7, 7, 3+1),
		long, // an extension of more than 255 words
	} {
		plain[2], plain[3], plain[11] = 1, 2, 9
		c := newPair(t, master(), 3)
		b := modelSeal(master(), plain, 258)
		if e := c.open(b); e != api.ErrForm || c.way.Used() != 1 || c.way.High(9) != 258 || c.way.Sources() != 1 {
			t.Error(i, e, c.way.Used(), c.way.High(9), c.way.Sources())
		}
		if e := c.open(b); e != api.ErrOld {
			t.Error(i, e)
		}
		if e := c.open(sealed(t, master(), packet(9, 259), 259)); e != api.OK {
			t.Error(i, e)
		}
		// With a tag that isn't right it isn't deciphered.
		d := newPair(t, master(), 3)
		b[len(b)-1] ^= 1
		if e := d.open(b); e != api.ErrAuth {
			t.Error(i, e)
		}
	}
}

func TestOpenOfAllPaddings(t *testing.T) {
	c := newPair(t, master(), 3000)
	for last := range int64(256) {
		for behind, plain := range [][]byte{counted(0xA0, 13), counted(0xA0, 100), counted(0xA1, 200), counted(0xA0, 300)} {
			i := 4*last + int64(behind)
			plain[2], plain[3], plain[len(plain)-1] = byte(i>>8), byte(i), byte(last)
			c.open(modelSeal(master(), plain, i))
		}
	}
}

func TestOpenSharesNothing(t *testing.T) {
	a, b := srtp.New(master(), 10), srtp.New(master(), 10)
	x := sealed(t, master(), full(9), 9)
	room := append(bytes.Clone(x), bytes.Repeat([]byte{0xEE}, 50)...)
	p, _, _ := a.Open(room[:len(x)])
	q, _, _ := b.Open(room[:len(x)])
	if !bytes.Equal(room[:len(x)], x) || !bytes.Equal(room[len(x):], bytes.Repeat([]byte{0xEE}, 50)) {
		t.Error("what was handed in is written to")
	}
	for _, l := range [][]byte{p.Payload[:cap(p.Payload)], p.Extra[:cap(p.Extra)], room} {
		for i := range l {
			l[i] ^= 0xFF
		}
	}
	p.Others[0]++
	if !alike(q, full(9)) {
		t.Error("an answer shares memory:", q)
	}
}

// Two ways to which the same was done answer the same; two of one master have nothing in common but the keys.
func TestWaysAreApart(t *testing.T) {
	a, b := newPair(t, master(), 5), newPair(t, master(), 5)
	x := sealed(t, master(), packet(1, 1), 1)
	for range 2 {
		a.open(x)
	}
	a.seal(packet(1, 2), 2)
	if b.way.Used() != 0 || b.way.Sources() != 0 || b.way.High(1) != -1 {
		t.Error(b.way.Used(), b.way.Sources(), b.way.High(1))
	}
	if e := b.open(x); e != api.OK {
		t.Error(e)
	}
}

// P15.5: what is sealed is opened once, by a way of the same master.

func TestSealedIsOpenedOnce(t *testing.T) {
	r := rand.New(rand.NewSource(3))
	for range 1500 {
		m := anyMaster(r)
		i := r.Int63n(65536)
		p := anyPacket(r, r.Uint32(), i)
		b := sealed(t, m, p, i)
		w := srtp.New(m, 5)
		if q, at, e := w.Open(b); e != api.OK || at != i || !alike(p, q) {
			t.Fatal(p, q, at, e)
		}
		for range 3 {
			if q, at, e := w.Open(b); e != api.ErrOld || at != 0 || !alike(q, api.Rtp{}) {
				t.Fatal(q, at, e)
			}
		}
	}
}

// One way can both seal and open what it sealed.
func TestSealedIsOpenedByItself(t *testing.T) {
	c := newPair(t, master(), 10)
	b, _ := c.seal(full(65000), 65000)
	if e := c.open(b); e != api.OK || c.way.Used() != 2 {
		t.Error(e, c.way.Used())
	}
}

func TestSealedIsNotOpenedByAnotherMaster(t *testing.T) {
	for bit := range 8 * 30 {
		c := newPair(t, turnedMaster(bit), 2)
		if e := c.open(sealed(t, master(), full(3), 3)); e != api.ErrAuth {
			t.Error(bit, e)
		}
	}
}

func TestSealedWithAByteTurnedIsNotOpened(t *testing.T) {
	for _, p := range []api.Rtp{packet(1, 40), full(40)} {
		c := newPair(t, master(), 2)
		b := sealed(t, master(), p, 40)
		for at := range b {
			for x := 1; x < 256; x++ {
				b[at] ^= byte(x)
				if c.open(b) == api.OK {
					t.Error(at, x)
				}
				b[at] ^= byte(x)
			}
		}
		// All that has turned nothing.
		if e := c.open(b); e != api.OK || c.way.Used() != 1 {
			t.Error(e, c.way.Used())
		}
	}
}

func TestSealedCutOrLengthenedIsNotOpened(t *testing.T) {
	b := sealed(t, master(), full(40), 40)
	c := newPair(t, master(), 2)
	for size := range len(b) {
		if c.open(b[:size]) == api.OK || size > 0 && c.open(b[size:]) == api.OK {
			t.Error(size)
		}
		twice := append(bytes.Clone(b[:size]), b...)
		if size > 0 && c.open(twice) == api.OK {
			t.Error(size)
		}
	}
	for more := 1; more < 20; more++ {
		if c.open(append(bytes.Clone(b), make([]byte, more)...)) == api.OK {
			t.Error(more)
		}
	}
	if e := c.open(b); e != api.OK {
		t.Error(e)
	}
}

// The round isn't sent, but tagged.
func TestSealedInAnotherRoundIsNotOpened(t *testing.T) {
	for _, i := range []int64{65536 + 40, 1<<32 + 40, 1<<47 + 40} {
		c := newPair(t, master(), 2)
		if e := c.open(sealed(t, master(), packet(1, i), i)); e != api.ErrAuth {
			t.Error(i, e)
		}
		if e := c.open(sealed(t, master(), packet(1, 40), 40)); e != api.OK {
			t.Error(i, e)
		}
	}
}

// Both together, by chance: several sources whose packets are lost, come late, twice, turned, forged or from far off.
func TestRunsByChance(t *testing.T) {
	r := rand.New(rand.NewSource(4))
	for range 60 {
		m := anyMaster(r)
		c := newPair(t, m, 1+r.Intn(700))
		next := map[uint32]int64{}
		var sent [][]byte
		for range 700 {
			source := uint32(r.Intn(1 + r.Intn(11)))
			steps := []int64{1, 1, 1, 2, 40, 70, 3000, 20000, 32768, 33000, 66000}
			i := max(0, next[source]+steps[r.Intn(len(steps))]-int64(r.Intn(2)*r.Intn(90)))
			next[source] = max(next[source], i)
			if r.Intn(20) == 0 {
				c.seal(anyPacket(r, source, i), i)
			}
			plain := anyPacket(r, source, i)
			b := sealed(t, m, plain, i)
			if r.Intn(15) == 0 {
				// A first byte that says something else of what is behind it.
				first := counted(0x80|byte(r.Intn(64)), 12+r.Intn(300))
				first[2], first[3] = byte(i>>8), byte(i)
				first[8], first[9], first[10], first[11] = 0, 0, 0, byte(source)
				if modelHead(first) <= len(first) {
					b = modelSeal(m, first, i)
				}
			}
			switch r.Intn(8) {
			case 0:
				b[r.Intn(len(b))] ^= byte(1 + r.Intn(255))
			case 1:
				b = b[:r.Intn(len(b))]
			case 2:
				if len(sent) > 0 {
					b = sent[r.Intn(len(sent))]
				}
			case 3:
				b = sealed(t, anyMaster(r), plain, i)
			}
			sent = append(sent, b)
			c.open(b)
		}
	}
}

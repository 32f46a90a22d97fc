package srtcp_test

import (
	"bytes"
	"encoding/binary"
	"math"
	"math/rand"
	"testing"

	"tenaille/api"
	"tenaille/srtcp"
)

// P16.3: Open.

// The printed one is authentic, though what it ciphers is no compound.
func TestOpenPrinted(t *testing.T) {
	m, b := printed()
	w := srtcp.New(m, 3)
	if l, source, e := w.Open(b); e != api.ErrForm || l != nil || source != 0 || w.Used() != 1 || w.High(0xCAFEBABE) != 1 || w.Next() != 0 {
		t.Error(l, source, e, w.Used(), w.High(0xCAFEBABE), w.Next())
	}
	if _, _, e := w.Open(b); e != api.ErrOld || w.Used() != 1 {
		t.Error(e, w.Used())
	}
	b[37] ^= 1
	if _, _, e := srtcp.New(m, 3).Open(b); e != api.ErrAuth {
		t.Error(e)
	}
}

// edges are indices at the edges of what one may be, and of its bits.
func edges() []int64 {
	l := []int64{0, 1<<31 - 2, 1<<31 - 1}
	for bit := range 31 {
		l = append(l, 1<<bit-1, 1<<bit, 1<<bit+1)
	}
	return l
}

func TestOpenByAllIndices(t *testing.T) {
	for _, m := range []api.Master{{}, master()} {
		for _, i := range edges() {
			for _, source := range []uint32{0, 5, math.MaxUint32} {
				c := newPair(t, m, 1)
				if e := c.open(at(t, m, i, each(source)...)); e != api.OK || c.way.High(source) != i {
					t.Error(i, source, e, c.way.High(source))
				}
			}
		}
	}
}

func TestOpenOfEachKind(t *testing.T) {
	c := newPair(t, master(), 100)
	for i, one := range each(0xC0C1C2C3) {
		if e := c.open(at(t, master(), int64(i), one)); e != api.OK {
			t.Error(i, e)
		}
	}
}

func TestOpenOfAllLengths(t *testing.T) {
	c := newPair(t, master(), 2000)
	for size := 8; size <= 1184; size += 4 {
		if e := c.open(at(t, master(), int64(size), long(7, size)...)); e != api.OK {
			t.Error(size, e)
		}
	}
	// A compound may be longer, but then it can't be ciphered.
	for size := 1188; size <= 1200; size += 4 {
		if e := c.open(at(t, master(), int64(size), long(7, size)...)); e != api.ErrForm || c.way.High(7) != 1184 {
			t.Error(size, e, c.way.High(7))
		}
	}
}

// The most bytes are told first, then the least, then the first bit, then the key.
func TestOpenTellsLengthsAndTheFirstBitFirst(t *testing.T) {
	for _, limit := range []int{0, 1} {
		c := newPair(t, master(), limit)
		for _, fill := range []byte{0, 1, 0x7F, 0x80, 0xFF} {
			for _, size := range []int{1201, 1202, 1300, 2400, 1 << 16, 1 << 20} {
				if e := c.open(bytes.Repeat([]byte{fill}, size)); e != api.ErrForm {
					t.Error(fill, size, e)
				}
			}
			for size := range 22 {
				if e := c.open(bytes.Repeat([]byte{fill}, size)); e != api.ErrShort {
					t.Error(fill, size, e)
				}
			}
			for size := 22; size <= 1200; size++ {
				want := api.ErrAuth
				if fill < 0x80 {
					want = api.ErrForm
				} else if limit == 0 {
					want = api.ErrKey
				}
				if e := c.open(bytes.Repeat([]byte{fill}, size)); e != want {
					t.Error(fill, size, e)
				}
			}
		}
		if e := c.open(nil); e != api.ErrShort {
			t.Error(e)
		}
	}
}

// What says that it isn't ciphered is refused, even if its tag is right.
func TestOpenOfWhatIsNotCiphered(t *testing.T) {
	c := newPair(t, master(), 10)
	for _, i := range []int64{0, 1, 1 << 30, 1<<31 - 1} {
		b := at(t, master(), i, asks(5))
		b = b[:len(b)-10]
		b[len(b)-4] ^= 0x80
		b = append(b, modelTag(master(), b)...)
		if e := c.open(b); e != api.ErrForm || c.way.Used() != 0 || c.way.High(5) != -1 {
			t.Error(i, e, c.way.Used(), c.way.High(5))
		}
	}
}

// What the first byte is, and the version in it, isn't looked at ahead of the tag.
func TestOpenOfAllFirstBytes(t *testing.T) {
	c, d := newPair(t, master(), 1000), newPair(t, master(), 1000)
	for first := range int64(256) {
		b := at(t, master(), first, told(5, 1))
		b[0] ^= byte(first)
		want := api.ErrAuth
		if first == 0 {
			want = api.OK
		}
		if e := c.open(b); e != want {
			t.Error(first, e)
		}
		// With the right tag they are no compound, but for the report's own first byte.
		plain := modelTurn(master(), b[:len(b)-14], first)
		if want == api.ErrAuth {
			want = api.ErrForm
		}
		if e := d.open(modelSeal(master(), plain, first)); e != want {
			t.Error(first, e)
		}
	}
}

func TestOpenOfTheWindowsEdge(t *testing.T) {
	for _, h := range []int64{0, 1, 63, 64, 1000, 65536, 1<<31 - 1} {
		c := newPair(t, master(), 1000)
		c.open(at(t, master(), h, asks(5)))
		for below := int64(0); below < 70 && below <= h; below++ {
			b := at(t, master(), h-below, asks(5))
			want := api.OK
			if below == 0 || below >= 64 {
				want = api.ErrOld
			}
			if e := c.open(b); e != want {
				t.Error(h, below, e)
			}
			if e := c.open(b); e != api.ErrOld {
				t.Error(h, below, "again:", e)
			}
		}
	}
}

// The index is sent whole: however far ahead it is, it is that, and what was ahead makes what is far behind old.
func TestOpenFarAheadAndBehind(t *testing.T) {
	c := newPair(t, master(), 1000)
	for _, i := range []int64{5, 32772, 32773, 65536 + 5, 1 << 20, 1<<20 + 65536, 1 << 30, 1<<31 - 1} {
		if e := c.open(at(t, master(), i, asks(5))); e != api.OK || c.way.High(5) != i {
			t.Error(i, e, c.way.High(5))
		}
	}
	for _, i := range []int64{6, 65536 + 6, 1<<31 - 65} {
		if e := c.open(at(t, master(), i, asks(5))); e != api.ErrOld {
			t.Error(i, e)
		}
	}
}

func TestOpenKeepsWindowsApart(t *testing.T) {
	c := newPair(t, master(), 1000)
	for i := range int64(8) {
		for source := range uint32(8) {
			if e := c.open(at(t, master(), 300*i+100*int64(source), asks(source))); e != api.OK {
				t.Error(source, i, e)
			}
		}
	}
	for source := range uint32(8) {
		if h := c.way.High(source); h != 2100+100*int64(source) {
			t.Error(source, h)
		}
	}
}

// Between ErrForm of the first bit and the room: a key that is used up.
func TestOpenTellsTheKeyAheadOfAllBehindIt(t *testing.T) {
	c := newPair(t, master(), 8)
	var last []byte
	for source := range uint32(8) {
		last = at(t, master(), 70, asks(source))
		if e := c.open(last); e != api.OK {
			t.Error(source, e)
		}
	}
	turned := bytes.Clone(last)
	turned[9] ^= 1
	for i, b := range [][]byte{last, turned, at(t, master(), 70, asks(9)), at(t, master(), 71, asks(7)), modelSeal(master(), make([]byte, 8), 5)} {
		if e := c.open(b); e != api.ErrKey {
			t.Error(i, e)
		}
	}
}

func TestOpenHasRoomForEightSources(t *testing.T) {
	c := newPair(t, master(), 1000)
	for source := uint32(10); source < 18; source++ {
		if e := c.open(at(t, master(), 70, asks(source))); e != api.OK {
			t.Error(source, e)
		}
	}
	for _, source := range []uint32{0, 9, 18, math.MaxUint32} {
		// It is told ahead of a tag that isn't right.
		b := at(t, master(), 70, asks(source))
		turned := bytes.Clone(b)
		turned[9] ^= 1
		if e := c.open(b); e != api.ErrFull || c.open(turned) != api.ErrFull || c.way.High(source) != -1 {
			t.Error(source, e)
		}
	}
	// Those that have a window go on.
	for source := uint32(10); source < 18; source++ {
		if e := c.open(at(t, master(), 71, asks(source))); e != api.OK {
			t.Error(source, e)
		}
		if e := c.open(at(t, master(), 70, asks(source))); e != api.ErrOld {
			t.Error(source, e)
		}
	}
}

// Sealing takes no room: a way seals of more sources than it has windows.
func TestSealTakesNoRoom(t *testing.T) {
	c := newPair(t, master(), 1000)
	for source := range uint32(30) {
		c.seal(asks(source))
	}
	for source := uint32(40); source < 48; source++ {
		if e := c.open(at(t, master(), 3, asks(source))); e != api.OK {
			t.Error(source, e)
		}
	}
	if _, e := c.seal(asks(99)); e != api.OK {
		t.Error(e)
	}
}

// Forgers can't make a way have sources.
func TestOpenOfForgedTakesNoRoom(t *testing.T) {
	c := newPair(t, master(), 1000)
	for source := range uint32(100) {
		b := at(t, master(), 70, asks(source))
		b[len(b)-1] ^= 1
		if e := c.open(b); e != api.ErrAuth || c.way.High(source) != -1 {
			t.Error(source, e)
		}
	}
	for source := range uint32(8) {
		if e := c.open(at(t, master(), 7, asks(source))); e != api.OK {
			t.Error(source, e)
		}
	}
	// Nor can they make what comes later old.
	b := at(t, master(), 1<<31-1, asks(3))
	b[len(b)-1] ^= 1
	if e := c.open(b); e != api.ErrAuth || c.open(at(t, master(), 8, asks(3))) != api.OK {
		t.Error(e)
	}
}

// What isn't fresh is told ahead of a tag that isn't right.
func TestOpenTellsOldAheadOfTheTag(t *testing.T) {
	c := newPair(t, master(), 10)
	c.open(at(t, master(), 1000, asks(5)))
	for i, want := range map[int64]api.Errno{1000: api.ErrOld, 936: api.ErrOld, 0: api.ErrOld, 937: api.ErrAuth, 1001: api.ErrAuth} {
		b := at(t, master(), i, asks(5))
		b[9] ^= 1
		if e := c.open(b); e != want {
			t.Error(i, e)
		}
	}
}

// What is authentic, but no compound, is used and marked, with nothing else told.
func TestOpenOfWhatIsNoCompound(t *testing.T) {
	nine := bytes.Repeat([]byte{0x80, 203, 0, 0}, 9)
	for i, plain := range [][]byte{
		make([]byte, 8),
		{0x81, 201, 0, 7, 0, 0, 0, 9},                // fewer bytes than its words tell
		{0x80, 201, 0, 1, 0, 0, 0, 9, 0x80},          // fewer than a packet's first four behind
		{0x80, 201, 0, 1, 0, 0, 0, 9, 0x80, 203, 0},  // and one more of these
		{0x80, 201, 0, 1, 0, 0, 0, 9, 0, 0, 0, 0},    // no version
		{0x80, 204, 0, 1, 0, 0, 0, 9},                // no kind
		{0xA0, 201, 0, 1, 0, 0, 0, 9},                // padded
		{0x80, 201, 0, 2, 0, 0, 0, 9, 0, 0, 0, 0},    // more than its body has
		{0x81, 205, 0, 2, 0, 0, 0, 9, 0, 0, 0, 0},    // no loss
		append([]byte{0x80, 200, 0, 1}, nine[4:]...), // lacks what its kind has
		nine,
		make([]byte, 1186),
		bytes.Repeat([]byte{0xFF}, 1185),
	} {
		source := binary.BigEndian.Uint32(plain[4:])
		c := newPair(t, master(), 4)
		b := modelSeal(master(), plain, 258)
		if e := c.open(b); e != api.ErrForm || c.way.Used() != 1 || c.way.High(source) != 258 {
			t.Error(i, e, c.way.Used(), c.way.High(source))
		}
		if e := c.open(b); e != api.ErrOld {
			t.Error(i, e)
		}
		if e := c.open(at(t, master(), 259, asks(source))); e != api.OK {
			t.Error(i, e)
		}
		// With a tag that isn't right it isn't deciphered.
		d := newPair(t, master(), 3)
		b[len(b)-1] ^= 1
		if e := d.open(b); e != api.ErrAuth || d.way.Used() != 0 {
			t.Error(i, e)
		}
	}
}

// What is no compound takes room, as it is authentic.
func TestOpenOfWhatIsNoCompoundTakesRoom(t *testing.T) {
	c := newPair(t, master(), 100)
	for source := range byte(8) {
		if e := c.open(modelSeal(master(), []byte{0, 0, 0, 0, 0, 0, 0, source}, 3)); e != api.ErrForm {
			t.Error(source, e)
		}
	}
	if e := c.open(at(t, master(), 3, asks(8))); e != api.ErrFull {
		t.Error(e)
	}
	if e := c.open(at(t, master(), 4, asks(7))); e != api.OK {
		t.Error(e)
	}
}

func TestOpenSharesNothing(t *testing.T) {
	a, b := srtcp.New(master(), 10), srtcp.New(master(), 10)
	x := at(t, master(), 9, each(7)...)
	room := append(bytes.Clone(x), bytes.Repeat([]byte{0xEE}, 50)...)
	l, _, _ := a.Open(room[:len(x)])
	k, _, _ := b.Open(room[:len(x)])
	if !bytes.Equal(room[:len(x)], x) || !bytes.Equal(room[len(x):], bytes.Repeat([]byte{0xEE}, 50)) {
		t.Error("what was handed in is written to")
	}
	for i := range room {
		room[i] ^= 0xFF
	}
	for i := range l {
		for j := range l[i].Reports {
			l[i].Reports[j] = api.Report{}
		}
		clear(l[i].Names)
		clear(l[i].Sources)
		clear(l[i].Losses)
		clear(l[i].Firs)
		l[i] = api.Ctrl{}
	}
	if !alike(k, each(7)) {
		t.Error("an answer shares memory:", k)
	}
}

// Two ways to which the same was done answer the same; two of one master have nothing in common but the keys.
func TestWaysAreApart(t *testing.T) {
	a, b := newPair(t, master(), 5), newPair(t, master(), 5)
	x := at(t, master(), 1, asks(1))
	for range 2 {
		a.open(x)
	}
	a.seal(asks(1))
	if b.way.Used() != 0 || b.way.Next() != 0 || b.way.High(1) != -1 {
		t.Error(b.way.Used(), b.way.Next(), b.way.High(1))
	}
	if e := b.open(x); e != api.OK {
		t.Error(e)
	}
}

// P16.4: what is sealed is opened once.

func TestSealedIsOpenedOnce(t *testing.T) {
	r := rand.New(rand.NewSource(3))
	for range 200 {
		m := anyMaster(r)
		from, to := srtcp.New(m, 100), srtcp.New(m, 100)
		source := r.Uint32()
		for range 8 {
			l := anyCompound(r, source)
			b, e := from.Seal(l)
			if e != api.OK {
				continue
			}
			if k, s, e := to.Open(b); e != api.OK || s != source || !alike(l, k) || to.High(source) != from.Next()-1 {
				t.Fatal(l, k, s, e, to.High(source))
			}
			for range 3 {
				if k, s, e := to.Open(b); e != api.ErrOld || s != 0 || k != nil {
					t.Fatal(k, s, e)
				}
			}
		}
	}
}

// One way can both seal and open what it sealed.
func TestSealedIsOpenedByItself(t *testing.T) {
	c := newPair(t, master(), 10)
	b, _ := c.seal(each(7)...)
	if e := c.open(b); e != api.OK || c.way.Used() != 2 || c.way.Next() != 1 {
		t.Error(e, c.way.Used(), c.way.Next())
	}
	if e := c.open(b); e != api.ErrOld {
		t.Error(e)
	}
}

func TestSealedIsNotOpenedByAnotherMaster(t *testing.T) {
	for bit := range 8 * 30 {
		c := newPair(t, turnedMaster(bit), 2)
		if e := c.open(at(t, master(), 3, each(7)...)); e != api.ErrAuth {
			t.Error(bit, e)
		}
	}
}

func TestSealedWithAByteTurnedIsNotOpened(t *testing.T) {
	for _, l := range [][]api.Ctrl{{asks(5)}, {told(5, 0)}, each(5)} {
		c := newPair(t, master(), 2)
		b := at(t, master(), 40, l...)
		for i := range b {
			for x := 1; x < 256; x++ {
				b[i] ^= byte(x)
				want := api.ErrAuth
				if i == len(b)-14 && x >= 128 {
					want = api.ErrForm
				}
				if e := c.open(b); e != want {
					t.Error(i, x, e)
				}
				b[i] ^= byte(x)
			}
		}
		// All that has turned nothing.
		if e := c.open(b); e != api.OK || c.way.Used() != 1 {
			t.Error(e, c.way.Used())
		}
	}
}

func TestSealedCutOrLengthenedIsNotOpened(t *testing.T) {
	b := at(t, master(), 40, each(5)...)
	c := newPair(t, master(), 2)
	for size := range len(b) {
		if c.open(b[:size]) == api.OK || size > 0 && c.open(b[size:]) == api.OK {
			t.Error(size)
		}
		twice := append(bytes.Clone(b[:size]), b...)
		if size > 0 && c.open(twice) == api.OK {
			t.Error(size)
		}
	}
	for more := 1; more < 20; more++ {
		if c.open(append(bytes.Clone(b), make([]byte, more)...)) == api.OK {
			t.Error(more)
		}
	}
	if e := c.open(b); e != api.OK {
		t.Error(e)
	}
}

// Both together, by chance: several sources whose compounds are lost, come late, twice, turned, forged or from far off.
func TestRunsByChance(t *testing.T) {
	r := rand.New(rand.NewSource(4))
	for range 60 {
		m := anyMaster(r)
		c := newPair(t, m, 1+r.Intn(700))
		next := map[uint32]int64{}
		var sent [][]byte
		for range 600 {
			source := uint32(r.Intn(1 + r.Intn(11)))
			steps := []int64{1, 1, 1, 2, 40, 70, 3000, 66000, 1 << 20}
			i := min(1<<31-1, max(0, next[source]+steps[r.Intn(len(steps))]-int64(r.Intn(2)*r.Intn(90))))
			next[source] = max(next[source], i)
			if r.Intn(20) == 0 {
				c.seal(anyCompound(r, source)...)
			}
			b := at(t, m, i, told(source, r.Intn(5)), asks(source))
			if r.Intn(15) == 0 {
				// What is no compound, or hardly one.
				plain := anyBytes(r, 8+r.Intn(300))
				binary.BigEndian.PutUint32(plain[4:], source)
				b = modelSeal(m, plain, i)
			}
			switch r.Intn(8) {
			case 0:
				b[r.Intn(len(b))] ^= byte(1 + r.Intn(255))
			case 1:
				b = b[:r.Intn(len(b))]
			case 2:
				if len(sent) > 0 {
					b = sent[r.Intn(len(sent))]
				}
			case 3:
				b = at(t, anyMaster(r), i, asks(source))
			}
			sent = append(sent, b)
			c.open(b)
		}
	}
}

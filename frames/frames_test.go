package frames_test

import (
	"bytes"
	"encoding/hex"
	"math"
	"math/rand"
	"slices"
	"testing"

	"tenaille/api"
	"tenaille/frames"
)

var key = []byte("a key of the control plane")

func TestTheChaptersExample(t *testing.T) {
	f := api.Frame{Kind: api.FrameJoin, Room: 5}
	b, e := frames.Write(f, key)
	if e != api.OK || len(b) != 25 {
		t.Errorf("%x, %d", b, e)
	}
	if g, e := frames.Read(b, key); e != api.OK || !alike(f, g) {
		t.Error(g, e)
	}
	if g, e := frames.Read(b, []byte("another key")); e != api.ErrAuth || !alike(g, api.Frame{}) {
		t.Error(g, e)
	}
}

// Frames whose tags were reckoned by another program.
func TestPrintedFrames(t *testing.T) {
	for _, c := range []struct {
		f      api.Frame
		key, b string
	}{
		{api.Frame{Kind: 1, Seat: 2, Nonce: 7, Room: 5}, "key", "010200000000000000070500000000f56d1e36b73c2dc2a22f"},
		{api.Frame{Kind: 3, Seat: 3, Nonce: 0x0102030405060708, Room: 4, Track: 5, Owner: 6, Layer: -1, Sources: []uint32{0x0a0b0c0d, 0xfffefdfc}},
			"Jefe", "03030102030405060708040506ff020a0b0c0dfffefdfca817d4d5d8673b1d62f1"},
	} {
		if b := checkWrite(t, c.f, []byte(c.key)); hex.EncodeToString(b) != c.b {
			t.Errorf("%x; want %s", b, c.b)
		}
	}
}

// P26.1: Write.

// Each number of a frame, the others being as they may, at all that a byte tells, and at the edges of what is beyond.
func TestWriteEachNumber(t *testing.T) {
	for _, c := range []struct {
		put       func(f *api.Frame, x int)
		least, to int
	}{
		{func(f *api.Frame, x int) { f.Kind = x }, 1, 8},
		{func(f *api.Frame, x int) { f.Seat = x }, 0, 254},
		{func(f *api.Frame, x int) { f.Room = x }, 0, 254},
		{func(f *api.Frame, x int) { f.Track = x }, 0, 254},
		{func(f *api.Frame, x int) { f.Owner = x }, 0, 254},
		{func(f *api.Frame, x int) { f.Layer = x }, -1, 254},
	} {
		list := edges()
		for x := range 700 {
			list = append(list, x-300)
		}
		for _, x := range list {
			f := full(2)
			c.put(&f, x)
			b := checkWrite(t, f, key)
			if (len(b) > 0) != (x >= c.least && x <= c.to) {
				t.Fatalf("%+v: %x", f, b)
			}
		}
	}
}

// All numbers at once are the least, or the greatest, that they may be; and one of them goes beyond.
func TestWriteAllNumbersAtTheirEdges(t *testing.T) {
	least := api.Frame{Kind: 1, Layer: -1}
	most := api.Frame{Kind: 8, Seat: 254, Nonce: math.MaxUint64, Room: 254, Track: 254, Owner: 254, Layer: 254}
	for range 16 {
		most.Sources = append(most.Sources, math.MaxUint32)
	}
	if b := checkWrite(t, least, nil); len(b) != 25 {
		t.Errorf("%x", b)
	}
	if b := checkWrite(t, most, nil); len(b) != 25+16*4 {
		t.Errorf("%x", b)
	}
	for _, f := range []api.Frame{least, most} {
		for i := range 12 {
			wrong := f
			at := []*int{&wrong.Kind, &wrong.Seat, &wrong.Room, &wrong.Track, &wrong.Owner, &wrong.Layer}[i/2]
			*at = []int{-2, 255}[i%2]
			if b := checkWrite(t, wrong, nil); len(b) != 0 {
				t.Errorf("%+v: %x", wrong, b)
			}
		}
	}
}

// The layer may be 0, and is no more none than 254 is.
func TestWriteLayers(t *testing.T) {
	for layer, want := range map[int]byte{-1: 255, 0: 0, 1: 1, 254: 254} {
		if b := checkWrite(t, api.Frame{Kind: api.FrameLayer, Layer: layer}, key); b[13] != want {
			t.Error(layer, b[13])
		}
	}
}

func TestWriteNonces(t *testing.T) {
	for bit := range 64 {
		for _, nonce := range []uint64{1 << bit, ^uint64(1 << bit), 1<<bit - 1} {
			f := full(1)
			f.Nonce = nonce
			checkWrite(t, f, key)
		}
	}
}

func TestWriteHowManySources(t *testing.T) {
	for _, n := range []int{0, 1, 2, 3, 8, 14, 15, 16, 17, 18, 31, 32, 33, 64, 128, 255, 256, 257, 272, 273, 512, 1 << 16, 1<<16 + 1} {
		b := checkWrite(t, full(n), key)
		if n <= 16 && len(b) != 25+4*n || n > 16 && len(b) != 0 {
			t.Error(n, len(b))
		}
	}
	f := full(0)
	f.Sources = []uint32{}
	if b := checkWrite(t, f, key); len(b) != 25 {
		t.Error(len(b))
	}
}

// Each bit of each source, in its place.
func TestWriteSources(t *testing.T) {
	for bit := range 16 * 32 {
		f := full(0)
		f.Sources = make([]uint32, 16)
		f.Sources[bit/32] = 0x80000000 >> (bit % 32)
		b := checkWrite(t, f, key)
		if b[15+bit/8] != 0x80>>(bit%8) {
			t.Errorf("%d: %x", bit, b)
		}
	}
}

func TestWriteKeys(t *testing.T) {
	for _, k := range keys() {
		for n := range 17 {
			checkWrite(t, full(n), k)
		}
		// What may not be is refused by each key.
		checkWrite(t, api.Frame{}, k)
	}
}

func TestWriteSharesNothing(t *testing.T) {
	f := full(3)
	f.Sources = append(make([]uint32, 0, 40), f.Sources...)
	k := append(make([]byte, 0, 200), key...)
	first, _ := frames.Write(f, k)
	second, _ := frames.Write(f, k)
	want := modelWrite(full(3), key)
	all := first[:cap(first)]
	for i := range all {
		all[i] ^= 0xff
	}
	if !bytes.Equal(second, want) || !slices.Equal(f.Sources, full(3).Sources) || !bytes.Equal(k, key) {
		t.Error("an answer shares memory")
	}
	for _, s := range f.Sources[3:cap(f.Sources)] {
		if s != 0 {
			t.Fatal("the sources' spare room is written to")
		}
	}
	for _, x := range k[len(k):cap(k)] {
		if x != 0 {
			t.Fatal("the key's spare room is written to")
		}
	}
	clear(f.Sources)
	clear(k)
	if !bytes.Equal(second, want) {
		t.Error("an answer hangs on what was handed in")
	}
}

// P26.1: Seat.

func TestSeatOfAllFirstBytesAtAllLengths(t *testing.T) {
	for n := range 120 {
		for first := range 256 {
			b := bytes.Repeat([]byte{0xfe}, n)
			if n > 0 {
				b[0] = byte(first)
			}
			if is := checkSeat(t, b); is != (n >= 25 && first >= 1 && first <= 8) {
				t.Fatal(n, first)
			}
		}
	}
	checkSeat(t, nil)
	checkSeat(t, append([]byte{1, 9}, make([]byte, 1<<20)...))
}

// All seats are told, that which none has too; whatever is behind it isn't looked at, neither is the tag.
func TestSeatOfAllSeats(t *testing.T) {
	r := rand.New(rand.NewSource(26))
	for kind := 1; kind <= 8; kind++ {
		for seat := range 256 {
			b := anyBytes(r, 25+r.Intn(80))
			b[0], b[1] = byte(kind), byte(seat)
			if s, ok := frames.Seat(b); s != seat || !ok {
				t.Fatal(kind, seat, s, ok)
			}
		}
	}
}

// What is written tells its seat.
func TestSeatOfWhatIsWritten(t *testing.T) {
	for seat := range 255 {
		for kind := 1; kind <= 8; kind++ {
			f := full(seat % 17)
			f.Kind, f.Seat = kind, seat
			if s, ok := frames.Seat(checkWrite(t, f, key)); s != seat || !ok {
				t.Fatal(kind, seat, s, ok)
			}
		}
	}
}

// P26.2: Read.

// Each byte of a frame at all that it may be, with the tag that was there, and with the right one.
func TestReadEachByteAtAllThatItMayBe(t *testing.T) {
	for _, n := range []int{0, 1, 2, 16} {
		good := modelWrite(full(n), key)
		for at := range good {
			for x := range 256 {
				b := turned(good, at, byte(x))
				e := checkRead(t, b, key)
				if (e == api.OK) != (b[at] == good[at]) {
					t.Fatalf("%x: %d", b, e)
				}
				checkRead(t, sign(b, key), key)
			}
		}
	}
}

// The bytes that must be below 255, and the layer, which needn't, alone and together.
func TestReadBytesBelow255(t *testing.T) {
	for which := range 1 << 5 {
		b := modelWrite(full(2), key)
		for i, at := range []int{1, 10, 11, 12, 13} {
			if which>>i&1 == 1 {
				b[at] = 255
			} else {
				b[at] = 254
			}
		}
		e := checkRead(t, sign(b, key), key)
		if which&15 != 0 && e != api.ErrForm || which&15 == 0 && e != api.OK {
			t.Error(which, e)
		}
	}
}

func TestReadKinds(t *testing.T) {
	for kind := range 256 {
		e := checkRead(t, sign(turned(modelWrite(full(1), key), 0, byte(kind)), key), key)
		if kind >= 1 && kind <= 8 && e != api.OK || (kind < 1 || kind > 8) && e != api.ErrForm {
			t.Error(kind, e)
		}
	}
}

// All numbers of sources at all lengths, each with the right tag.
func TestReadAllCountsAtAllLengths(t *testing.T) {
	for n := range 25 + 17*4 + 8 {
		for count := range 256 {
			b := make([]byte, n)
			for i := range b {
				b[i] = byte(3 * i)
			}
			if n > 0 {
				b[0] = 4
			}
			if n > 14 {
				b[14] = byte(count)
			}
			if n >= 10 {
				b = sign(b, key)
			}
			e := checkRead(t, b, key)
			switch {
			case n < 25 && e != api.ErrShort, n >= 25 && (count > 16 || n != 25+4*count) && e != api.ErrForm, count <= 16 && n == 25+4*count && e != api.OK:
				t.Fatal(n, count, e)
			}
		}
	}
}

// As many sources as are told, but more than may be.
func TestReadTooManySources(t *testing.T) {
	for n := range 256 {
		b := modelWrite(full(n), key)
		e := checkRead(t, b, key)
		if n <= 16 && e != api.OK || n > 16 && e != api.ErrForm {
			t.Error(n, e)
		}
	}
	for _, n := range []int{256, 257, 272, 512} {
		if e := checkRead(t, modelWrite(full(n), key), key); e != api.ErrForm {
			t.Error(n, e)
		}
	}
	for _, n := range []int{1 << 16, 1 << 20} {
		if e := checkRead(t, append(modelWrite(full(16), key), make([]byte, n)...), key); e != api.ErrForm {
			t.Error(n, e)
		}
	}
}

// Bytes are lacking, or too many, wherever a frame is cut.
func TestReadCutAndLengthened(t *testing.T) {
	for _, n := range []int{0, 1, 5, 16} {
		good := modelWrite(full(n), key)
		for cut := range good {
			e := checkRead(t, good[:cut], key)
			if cut < 25 && e != api.ErrShort || cut >= 25 && e != api.ErrForm {
				t.Error(n, cut, e)
			}
		}
		for more := 1; more < 30; more++ {
			if e := checkRead(t, append(bytes.Clone(good), make([]byte, more)...), key); e != api.ErrForm {
				t.Error(n, more, e)
			}
		}
	}
	checkRead(t, nil, nil)
	checkRead(t, []byte{}, key)
}

// ErrShort is told ahead of ErrForm, that ahead of ErrAuth.
func TestReadOrderOfErrors(t *testing.T) {
	all255 := bytes.Repeat([]byte{255}, 200)
	for n := range 200 {
		e := checkRead(t, all255[:n], key)
		if n < 25 && e != api.ErrShort || n >= 25 && e != api.ErrForm {
			t.Error(n, e)
		}
	}
	good := modelWrite(full(0), key)
	good[24] ^= 1
	if e := checkRead(t, good, key); e != api.ErrAuth {
		t.Error(e)
	}
	for _, at := range []int{0, 1, 10, 11, 12, 14} {
		if e := checkRead(t, turned(good, at, 255), key); e != api.ErrForm {
			t.Error(at, e)
		}
	}
}

// A tag is right as a whole, in its place, and by its own key alone.
func TestReadTags(t *testing.T) {
	f := full(2)
	good := modelWrite(f, key)
	end := len(good) - 10
	for bit := range 80 {
		if e := checkRead(t, turned(good, end+bit/8, good[end+bit/8]^0x80>>(bit%8)), key); e != api.ErrAuth {
			t.Error(bit, e)
		}
	}
	whole := modelTag(good, key)
	for _, tag := range [][]byte{make([]byte, 10), bytes.Repeat([]byte{255}, 10), modelTag(nil, key), modelTag(good[1:end], key), modelTag(good[:15], key), modelTag(good[15:end], key), whole} {
		if e := checkRead(t, append(bytes.Clone(good[:end]), tag...), key); e != api.ErrAuth {
			t.Errorf("%x: %d", tag, e)
		}
	}
	// The tag of a frame with another nonce, behind this one.
	other := f
	other.Nonce++
	if e := checkRead(t, append(bytes.Clone(good[:end]), modelWrite(other, key)[end:]...), key); e != api.ErrAuth {
		t.Error(e)
	}
}

func TestReadKeys(t *testing.T) {
	for i, k := range keys() {
		good := modelWrite(full(3), k)
		for j, l := range keys() {
			// The first three are one key: of zeros alone.
			same := i == j || i < 3 && j < 3
			if e := checkRead(t, good, l); (e == api.OK) != same || !same && e != api.ErrAuth {
				t.Error(i, j, e)
			}
		}
	}
	good := modelWrite(full(3), key)
	for bit := range 8 * len(key) {
		if e := checkRead(t, good, turned(key, bit/8, key[bit/8]^1<<(bit%8))); e != api.ErrAuth {
			t.Error(bit, e)
		}
	}
	for _, k := range [][]byte{key[1:], key[:len(key)-1], good, good[:15], append(bytes.Clone(key), 1)} {
		if e := checkRead(t, good, k); e != api.ErrAuth {
			t.Errorf("%x: %d", k, e)
		}
	}
}

func TestReadSharesNothing(t *testing.T) {
	good := modelWrite(full(4), key)
	b := append(make([]byte, 0, 300), good...)
	first, _ := frames.Read(b, key)
	second, _ := frames.Read(b, key)
	all := first.Sources[:cap(first.Sources)]
	for i := range all {
		all[i] = 0x55555555
	}
	if !bytes.Equal(b, good) || !alike(second, full(4)) {
		t.Error("an answer shares memory")
	}
	for _, x := range b[len(b):cap(b)] {
		if x != 0 {
			t.Fatal("spare room of what was handed in is written to")
		}
	}
	clear(b)
	if !alike(second, full(4)) {
		t.Error("an answer hangs on what was handed in")
	}
}

// P26.4, of frames.

func TestFramesThereAndBackByChance(t *testing.T) {
	r := rand.New(rand.NewSource(27))
	for range 20000 {
		f, k := anyFrame(r), anyBytes(r, r.Intn(90))
		b := checkWrite(t, f, k)
		if e := checkRead(t, b, k); e != api.OK {
			t.Fatal(f, e)
		}
		at, x := r.Intn(len(b)), byte(1+r.Intn(255))
		if e := checkRead(t, turned(b, at, b[at]^x), k); e == api.OK {
			t.Fatalf("%x is read with its byte %d turned", b, at)
		}
	}
}

func TestReadByChance(t *testing.T) {
	r := rand.New(rand.NewSource(28))
	for range 20000 {
		b := anyBytes(r, r.Intn(100))
		if len(b) > 14 && r.Intn(2) == 0 {
			b[0], b[14] = byte(r.Intn(11)), byte((len(b)-24)/4)
		}
		checkRead(t, b, key)
		if len(b) >= 10 {
			checkRead(t, sign(b, key), key)
		}
	}
}

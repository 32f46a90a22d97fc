package vp8_test

import (
	"bytes"
	"math/rand"
	"testing"

	"tenaille/api"
	"tenaille/vp8"
)

// modelRead goes by the chapter's words, with places counted from the beginning.
func modelRead(b []byte) (api.Vp8, api.Errno) {
	if len(b) < 1 {
		return api.Vp8{}, api.ErrShort
	}
	if b[0]/64%2 == 1 || b[0]/8%2 == 1 {
		return api.Vp8{}, api.ErrForm
	}
	v := api.Vp8{Start: b[0]/16%2 == 1, Part: b[0] % 8, Head: 1}
	if b[0] >= 128 {
		if len(b) < 2 {
			return api.Vp8{}, api.ErrShort
		}
		if b[1]%16 != 0 {
			return api.Vp8{}, api.ErrForm
		}
		v.Head = 2
		if b[1] >= 128 {
			v.Has, v.Head = true, v.Head+1
			if len(b) > 2 && b[2] >= 128 {
				v.Wide, v.Head = true, v.Head+1
			}
		}
		if b[1]/64%2 == 1 {
			v.Head++
		}
		if b[1]/16%4 != 0 {
			v.Head++
		}
	}
	if len(b) < v.Head {
		return api.Vp8{}, api.ErrShort
	}
	switch {
	case v.Wide:
		v.Picture = (uint16(b[2])-128)*256 + uint16(b[3])
	case v.Has:
		v.Picture = uint16(b[2])
	}
	v.Key = v.Start && v.Part == 0 && len(b) > v.Head && b[v.Head]%2 == 0
	return v, api.OK
}

// modelTurn is the payload with another picture's number, and whether it has one.
func modelTurn(b []byte, picture uint16) ([]byte, bool) {
	v, code := modelRead(b)
	if code != api.OK || !v.Has {
		return nil, false
	}
	number := []byte{byte(picture % 128)}
	if v.Wide {
		number = []byte{byte(128 + picture/256%128), byte(picture % 256)}
	}
	return bytes.Join([][]byte{b[:2], number, b[2+len(number):]}, nil), true
}

// checkRead holds Read against the model, and looks whether b is what it was.
func checkRead(t *testing.T, b []byte) (api.Vp8, api.Errno) {
	t.Helper()
	was := bytes.Clone(b)
	want, code := modelRead(b)
	v, e := vp8.Read(b)
	if v != want || e != code {
		t.Fatalf("Read(%x): %+v, %d, asked for: %+v, %d", was, v, e, want, code)
	}
	if !bytes.Equal(b, was) {
		t.Fatalf("%x has become %x", was, b)
	}
	return v, e
}

// checkTurn holds Turn against the model, looks whether b is what it was, and whether all else that is read stays.
func checkTurn(t *testing.T, b []byte, picture uint16) ([]byte, bool) {
	t.Helper()
	was := bytes.Clone(b)
	want, has := modelTurn(b, picture)
	c, ok := vp8.Turn(b, picture)
	if ok != has || !bytes.Equal(c, want) {
		t.Fatalf("Turn(%x, %d): %x, %t, asked for: %x, %t", was, picture, c, ok, want, has)
	}
	if !bytes.Equal(b, was) {
		t.Fatalf("%x has become %x", was, b)
	}
	if ok {
		checkSame(t, b, c, picture)
	}
	return c, ok
}

// checkSame looks whether what is read of c is what is read of b, but for the picture's number.
func checkSame(t *testing.T, b, c []byte, picture uint16) {
	t.Helper()
	v, _ := vp8.Read(b)
	w, e := vp8.Read(c)
	number := picture % 128
	if v.Wide {
		number = picture % 32768
	}
	if e != api.OK || w.Picture != number {
		t.Fatalf("%x turned to %d is read as %+v, %d", b, picture, w, e)
	}
	if w.Picture = v.Picture; w != v {
		t.Fatalf("%x: %+v, turned to %x: %+v", b, v, c, w)
	}
	if len(c) != len(b) || !bytes.Equal(c[w.Head:], b[v.Head:]) {
		t.Fatalf("%x turned to %x has other bytes behind", b, c)
	}
}

// anyPayload is one by chance, mostly one that is read.
func anyPayload(r *rand.Rand) []byte {
	b := make([]byte, r.Intn(12))
	r.Read(b)
	if r.Intn(4) > 0 && len(b) > 0 {
		b[0] &= 0xb7
	}
	if r.Intn(4) > 0 && len(b) > 1 {
		b[1] &= 0xf0
	}
	return b
}

// P13.1: Read.

func TestReadOrdinary(t *testing.T) {
	for i, c := range []struct {
		b []byte
		v api.Vp8
	}{
		{[]byte{0x90, 0x80, 0x05, 0x00}, api.Vp8{Start: true, Has: true, Picture: 5, Key: true, Head: 3}},
		{[]byte{0x90, 0x80, 0x11, 0x01}, api.Vp8{Start: true, Has: true, Picture: 17, Head: 3}},
		{[]byte{0x90, 0x80, 0x92, 0x67, 0x02}, api.Vp8{Start: true, Has: true, Wide: true, Picture: 4711, Key: true, Head: 4}},
		{[]byte{0x90, 0xe0, 0x92, 0x67, 0x01, 0x01, 0x02}, api.Vp8{Start: true, Has: true, Wide: true, Picture: 4711, Key: true, Head: 6}},
		{[]byte{0x91, 0x80, 0x11, 0x00}, api.Vp8{Start: true, Part: 1, Has: true, Picture: 17, Head: 3}},
		{[]byte{0x30, 0x04}, api.Vp8{Start: true, Key: true, Head: 1}},
		{[]byte{0x80, 0x00, 0x04}, api.Vp8{Head: 2}},
		{[]byte{0x07}, api.Vp8{Part: 7, Head: 1}},
	} {
		if v, e := vp8.Read(c.b); v != c.v || e != api.OK {
			t.Error(i, v, e)
		}
	}
}

func TestReadRefuses(t *testing.T) {
	for i, c := range []struct {
		b []byte
		e api.Errno
	}{
		{nil, api.ErrShort}, {[]byte{}, api.ErrShort}, {[]byte{0x80}, api.ErrShort}, {[]byte{0x90, 0x80}, api.ErrShort}, {[]byte{0x90, 0x80, 0xff}, api.ErrShort},
		{[]byte{0x90, 0x40}, api.ErrShort}, {[]byte{0x90, 0x20}, api.ErrShort}, {[]byte{0x90, 0x10}, api.ErrShort}, {[]byte{0x90, 0x30}, api.ErrShort},
		{[]byte{0x90, 0x50, 1}, api.ErrShort}, {[]byte{0x90, 0xc0, 1}, api.ErrShort}, {[]byte{0x90, 0xb0, 0x81, 1}, api.ErrShort}, {[]byte{0x90, 0xf0, 0x81, 1, 2}, api.ErrShort},
		{[]byte{0x40}, api.ErrForm}, {[]byte{0x08}, api.ErrForm}, {[]byte{0x50, 0}, api.ErrForm}, {[]byte{0x18, 0, 0}, api.ErrForm},
		{[]byte{0x90, 0x81, 5, 0}, api.ErrForm}, {[]byte{0x90, 0x02, 5}, api.ErrForm}, {[]byte{0x90, 0x04, 5}, api.ErrForm}, {[]byte{0x90, 0x08, 5}, api.ErrForm},
	} {
		if v, e := vp8.Read(c.b); v != (api.Vp8{}) || e != c.e {
			t.Error(i, v, e)
		}
	}
}

func TestReadLooksByteByByte(t *testing.T) {
	// A byte that is wrong is told ahead of a later one that isn't there.
	for _, b := range [][]byte{{0xc0}, {0x88}, {0xd8}, {0x90, 0x81}, {0x90, 0xff}, {0x90, 0x48}, {0x90, 0x12}, {0x90, 0xc4, 0x85}, {0xc0, 0x81}} {
		if _, e := checkRead(t, b); e != api.ErrForm {
			t.Errorf("%x: %d", b, e)
		}
	}
	// What isn't a beginning's byte isn't looked at.
	for _, b := range [][]byte{{0x10, 0xff}, {0x00, 0x0f, 0xff}, {0x80, 0x00, 0xff, 0xff}, {0x90, 0x80, 0x7f, 0xff}, {0x80, 0xf0, 0xff, 0xff, 0xff, 0xff}} {
		if _, e := checkRead(t, b); e != api.OK {
			t.Errorf("%x: %d", b, e)
		}
	}
}

func TestReadBeginningsOfAllLengths(t *testing.T) {
	thirds := []byte{0, 1, 5, 0x7e, 0x7f, 0x80, 0x81, 0xfe, 0xff}
	for first := range 256 {
		for second := range 256 {
			for _, third := range thirds {
				b := []byte{byte(first), byte(second), third, 0x8a, 0x93, 0xf4, 0x05, 0x06}
				for size := range len(b) + 1 {
					checkRead(t, b[:size:size])
				}
			}
		}
	}
}

func TestReadParts(t *testing.T) {
	for part := range 8 {
		for _, start := range []bool{false, true} {
			b := []byte{byte(part), 2}
			if start {
				b[0] |= 16
			}
			v, e := checkRead(t, b)
			if e != api.OK || int(v.Part) != part || v.Start != start || v.Key != (start && part == 0) {
				t.Error(part, start, v, e)
			}
			// A frame without followers is read as another one.
			b[0] |= 32
			if w, e := checkRead(t, b); e != api.OK || w != v {
				t.Error(part, start, w, e)
			}
		}
	}
}

func TestReadPictures(t *testing.T) {
	for _, second := range []byte{0x80, 0x90, 0xa0, 0xb0, 0xc0, 0xf0} {
		for picture := range 128 {
			v, e := checkRead(t, []byte{0x90, second, byte(picture), 1, 2, 3})
			if e != api.OK || !v.Has || v.Wide || int(v.Picture) != picture {
				t.Fatal(picture, v, e)
			}
		}
		for picture := range 1 << 15 {
			v, e := checkRead(t, []byte{0x90, second, byte(128 + picture>>8), byte(picture), 1, 2, 3})
			if e != api.OK || !v.Has || !v.Wide || int(v.Picture) != picture {
				t.Fatal(picture, v, e)
			}
		}
	}
	// Where there is none, the bytes that are passed over tell none.
	for _, second := range []byte{0, 0x10, 0x20, 0x30, 0x40, 0x50, 0x60, 0x70} {
		v, e := checkRead(t, []byte{0x90, second, 0x85, 0x86, 0x87})
		if e != api.OK || v.Has || v.Wide || v.Picture != 0 {
			t.Error(second, v, e)
		}
	}
}

func TestReadHeads(t *testing.T) {
	heads := map[byte]int{0x00: 2, 0x10: 3, 0x20: 3, 0x30: 3, 0x40: 3, 0x50: 4, 0x60: 4, 0x70: 4, 0x80: 3, 0x90: 4, 0xa0: 4, 0xb0: 4, 0xc0: 4, 0xd0: 5, 0xe0: 5, 0xf0: 5}
	for second, head := range heads {
		for _, wide := range []int{0, 1} {
			b := []byte{0x90, second, byte(5 + 128*wide), 1, 1, 1, 1, 1}
			want := head
			if second >= 128 {
				want += wide
			}
			// The first byte behind is the one that tells a whole picture.
			b[want] = 0
			if v, e := checkRead(t, b); e != api.OK || v.Head != want || !v.Key {
				t.Errorf("%x: %+v, %d", b, v, e)
			}
			if v, e := checkRead(t, b[:want]); e != api.OK || v.Head != want || v.Key {
				t.Errorf("%x: %+v, %d", b[:want], v, e)
			}
			for size := range want {
				if _, e := checkRead(t, b[:size]); e != api.ErrShort {
					t.Errorf("%x: %d", b[:size], e)
				}
			}
		}
	}
}

func TestReadWholePictures(t *testing.T) {
	for _, head := range [][]byte{{0x10}, {0x30}, {0x90, 0x00}, {0x90, 0x80, 3}, {0x90, 0x80, 0x83, 4}, {0x90, 0xf0, 0x83, 5, 7, 9}} {
		if v, e := checkRead(t, head); e != api.OK || v.Key {
			t.Errorf("%x: %+v, %d", head, v, e)
		}
		for x := range 256 {
			b := append(bytes.Clone(head), byte(x), 1)
			if v, _ := checkRead(t, b); v.Key != (x%2 == 0) {
				t.Errorf("%x: %+v", b, v)
			}
			// No other partition begins one, nor does a later piece of the partition 0.
			for part := byte(1); part < 8; part++ {
				b[0] |= part
				if v, _ := checkRead(t, b); v.Key {
					t.Errorf("%x: %+v", b, v)
				}
				b[0] &^= part
			}
			b[0] &^= 16
			if v, _ := checkRead(t, b); v.Key {
				t.Errorf("%x: %+v", b, v)
			}
		}
	}
}

func TestReadByChance(t *testing.T) {
	r := rand.New(rand.NewSource(13))
	read := 0
	for range 200000 {
		if _, e := checkRead(t, anyPayload(r)); e == api.OK {
			read++
		}
	}
	if read < 50000 {
		t.Error("few were read:", read)
	}
}

func TestReadLongOnes(t *testing.T) {
	for _, size := range []int{api.MaxPacket, api.MaxPacket + 1, 1 << 16, 1 << 20} {
		b := make([]byte, size)
		copy(b, []byte{0x90, 0x80, 0x81, 2})
		if v, e := checkRead(t, b); e != api.OK || v != (api.Vp8{Start: true, Has: true, Wide: true, Picture: 0x102, Key: true, Head: 4}) {
			t.Error(size, v, e)
		}
		if c, ok := checkTurn(t, b, 9); !ok || len(c) != size {
			t.Error(size, len(c), ok)
		}
	}
}

// P13.2: Turn. P13.3 is looked at with each payload that is turned.

func TestTurnOrdinary(t *testing.T) {
	for i, c := range []struct {
		b       []byte
		picture uint16
		want    []byte
	}{
		{[]byte{0x90, 0x80, 0x05, 0x00}, 6, []byte{0x90, 0x80, 0x06, 0x00}},
		{[]byte{0x90, 0x80, 0x05}, 128, []byte{0x90, 0x80, 0x00}},
		{[]byte{0x90, 0x80, 0x05}, 0xffff, []byte{0x90, 0x80, 0x7f}},
		{[]byte{0x90, 0x80, 0x85, 0x06, 0x01}, 1, []byte{0x90, 0x80, 0x80, 0x01, 0x01}},
		{[]byte{0x90, 0x80, 0x85, 0x06, 0x01}, 0x8000, []byte{0x90, 0x80, 0x80, 0x00, 0x01}},
		{[]byte{0xb3, 0xf0, 0x7f, 0x81, 0x82, 0x83}, 0x1234, []byte{0xb3, 0xf0, 0x34, 0x81, 0x82, 0x83}},
		{[]byte{0xb3, 0xf0, 0xff, 0x81, 0x82, 0x83}, 0x1234, []byte{0xb3, 0xf0, 0x92, 0x34, 0x82, 0x83}},
	} {
		if b, ok := vp8.Turn(c.b, c.picture); !ok || !bytes.Equal(b, c.want) {
			t.Errorf("%d: %x, %t", i, b, ok)
		}
	}
}

func TestTurnToAllPictures(t *testing.T) {
	for _, b := range [][]byte{{0x90, 0x80, 0}, {0x90, 0x80, 0x7f, 0}, {0x81, 0xf0, 5, 1, 2, 3}, {0x90, 0x80, 0x80, 0}, {0x90, 0x80, 0xff, 0xff, 0}, {0xb7, 0xd0, 0x81, 5, 1, 2, 3}} {
		for picture := range 1 << 16 {
			if _, ok := checkTurn(t, b, uint16(picture)); !ok {
				t.Fatalf("%x isn't turned to %d", b, picture)
			}
		}
	}
}

func TestTurnOfAllPictures(t *testing.T) {
	for picture := range 1 << 15 {
		wide := []byte{0x90, 0x80, byte(128 + picture>>8), byte(picture), 0}
		checkTurn(t, wide, uint16(picture+1))
		// To its own number it is turned to itself.
		if c, ok := checkTurn(t, wide, uint16(picture)); !ok || !bytes.Equal(c, wide) {
			t.Fatalf("%x: %x, %t", wide, c, ok)
		}
		narrow := []byte{0x90, 0x80, byte(picture % 128), 0}
		if c, ok := checkTurn(t, narrow, uint16(picture)); !ok || !bytes.Equal(c, narrow) {
			t.Fatalf("%x: %x, %t", narrow, c, ok)
		}
	}
}

func TestTurnRefuses(t *testing.T) {
	for _, b := range [][]byte{nil, {}, {0x10}, {0x10, 0}, {0x90}, {0x90, 0}, {0x90, 0, 5, 6}, {0x90, 0x40, 1}, {0x90, 0x70, 5, 6, 7}, // none is there
		{0x90, 0x80}, {0x90, 0x80, 0x85}, {0x90, 0xc0, 5}, {0x90, 0xf0, 5, 6}, {0x90, 0xf0, 0x85, 6, 7}, // not all is there
		{0xd0, 0x80, 5, 0}, {0x98, 0x80, 5, 0}, {0x90, 0x81, 5, 0}, {0x90, 0x88, 0x85, 6, 0}} { // not as it must be
		for _, picture := range []uint16{0, 5, 0xffff} {
			if c, ok := checkTurn(t, b, picture); ok || len(c) != 0 {
				t.Errorf("%x: %x", b, c)
			}
		}
	}
}

func TestTurnBeginningsOfAllLengths(t *testing.T) {
	for first := range 256 {
		for second := range 256 {
			for _, third := range []byte{0, 0x7f, 0x80, 0xff} {
				b := []byte{byte(first), byte(second), third, 0x8a, 0x93, 0xf4, 0x05}
				for size := range len(b) + 1 {
					checkTurn(t, b[:size:size], 0x2b5c)
				}
			}
		}
	}
}

func TestTurnByChance(t *testing.T) {
	r := rand.New(rand.NewSource(31))
	turned := 0
	for range 200000 {
		b := anyPayload(r)
		c, ok := checkTurn(t, b, uint16(r.Uint32()))
		if !ok {
			continue
		}
		turned++
		v, _ := vp8.Read(b)
		if back, ok := checkTurn(t, c, v.Picture); !ok || !bytes.Equal(back, b) {
			t.Fatalf("%x, turned to %x, is turned back to %x", b, c, back)
		}
	}
	if turned < 10000 {
		t.Error("few were turned:", turned)
	}
}

func TestTurnSharesNothing(t *testing.T) {
	for _, head := range [][]byte{{0x90, 0x80, 5, 0}, {0x90, 0x80, 0x85, 6, 0}} {
		b := append(bytes.Clone(head), "spare room behind it"...)[:len(head)]
		was := bytes.Clone(b[:cap(b)])
		first, _ := vp8.Turn(b, 7)
		second, _ := vp8.Turn(b, 7)
		want := bytes.Clone(second)
		for i := range first[:cap(first)] {
			first[:cap(first)][i] ^= 0xff
		}
		if !bytes.Equal(b[:cap(b)], was) || !bytes.Equal(second, want) {
			t.Error("an answer shares memory")
		}
		for i := range b {
			b[i] ^= 0xff
		}
		if !bytes.Equal(second, want) {
			t.Error("an answer hangs on what was handed in")
		}
		// To its own number it is a copy, too.
		copy(b, was)
		v, _ := vp8.Read(b)
		same, _ := vp8.Turn(b, v.Picture)
		if !bytes.Equal(same, b) || &same[0] == &b[0] {
			t.Errorf("%x", same)
		}
	}
}

// Rule 6: the same is answered to the same, whatever was asked between.
func TestNothingIsKept(t *testing.T) {
	b := []byte{0x90, 0x80, 0x85, 6, 0}
	for range 3 {
		if _, e := checkRead(t, b); e != api.OK {
			t.Error(e)
		}
		if _, ok := checkTurn(t, b, 3); !ok {
			t.Error("not turned")
		}
		vp8.Read(nil)
		vp8.Read([]byte{0x50})
		vp8.Turn([]byte{0x90, 0x80}, 9)
		vp8.Turn([]byte{0x90, 0x80, 1}, 9)
	}
}

func TestExamples(t *testing.T) {
	if v, e := vp8.Read([]byte{0x90, 0x80, 0x05, 0x00}); e != api.OK || v != (api.Vp8{Start: true, Has: true, Picture: 5, Key: true, Head: 3}) {
		t.Error(v, e)
	}
	if v, e := vp8.Read([]byte{0x90, 0x80}); e != api.ErrShort || v != (api.Vp8{}) {
		t.Error(v, e)
	}
}

package avc_test

import (
	"bytes"
	"math/rand"
	"slices"
	"testing"

	"tenaille/api"
	"tenaille/avc"
)

// modelUnits goes by the chapter's words, with places counted from the beginning.
func modelUnits(b []byte) ([]int, api.Errno) {
	if len(b) == 0 {
		return nil, api.ErrShort
	}
	kind := int(b[0]) % 32
	if kind >= 1 && kind <= 23 {
		return []int{kind}, api.OK
	}
	if kind == 24 {
		return modelSeveral(b)
	}
	if kind != 28 {
		return nil, api.ErrForm
	}
	if len(b) < 3 {
		return nil, api.ErrShort
	}
	of := int(b[1]) % 32
	if b[1] >= 192 || b[1]/32%2 == 1 || of == 0 || of > 23 {
		return nil, api.ErrForm
	}
	return []int{of}, api.OK
}

// modelSeveral tells the types of several units in one payload.
func modelSeveral(b []byte) ([]int, api.Errno) {
	var l []int
	for at := 1; at < len(b) || at == 1; {
		if at+2 > len(b) {
			return nil, api.ErrShort
		}
		size := int(b[at])*256 + int(b[at+1])
		if size == 0 {
			return nil, api.ErrForm
		}
		if at+2+size > len(b) {
			return nil, api.ErrShort
		}
		if b[at+2]%32 == 0 {
			return nil, api.ErrForm
		}
		l = append(l, int(b[at+2])%32)
		at += 2 + size
	}
	return l, api.OK
}

// modelKey tells whether a whole picture begins.
func modelKey(b []byte) bool {
	l, e := modelUnits(b)
	if e != api.OK || b[0]%32 == 28 && b[1] < 128 {
		return false
	}
	return slices.Contains(l, 5) || slices.Contains(l, 7) || slices.Contains(l, 8)
}

// check holds both calls against the model, and looks whether b is what it was.
func check(t *testing.T, b []byte) ([]int, api.Errno, bool) {
	t.Helper()
	was := bytes.Clone(b)
	want, code := modelUnits(b)
	l, e := avc.Units(b)
	if !slices.Equal(l, want) || e != code {
		t.Fatalf("Units(%x): %d, %d, asked for: %d, %d", short(was), l, e, want, code)
	}
	key := avc.Key(b)
	if key != modelKey(b) {
		t.Fatalf("Key(%x): %t", short(was), key)
	}
	if !bytes.Equal(b, was) {
		t.Fatalf("%x has become %x", short(was), short(b))
	}
	return l, e, key
}

// short is the beginning of b, for what is told of it.
func short(b []byte) []byte { return b[:min(len(b), 64)] }

// together is a payload of several units.
func together(units ...[]byte) []byte {
	b := []byte{24}
	for _, unit := range units {
		b = append(b, byte(len(unit)>>8), byte(len(unit)))
		b = append(b, unit...)
	}
	return b
}

// unit is one of a type, of so many bytes, the others of which look like other types.
func unit(kind, size int) []byte {
	b := bytes.Repeat([]byte{0x65}, size)
	b[0] = 0x60 | byte(kind)
	return b
}

// isWhole is what the chapter says of a unit's type.
func isWhole(kind int) bool { return kind == 5 || kind == 7 || kind == 8 }

// anyPayload is one by chance, mostly one that is read, or nearly.
func anyPayload(r *rand.Rand) []byte {
	b := make([]byte, r.Intn(8))
	r.Read(b)
	switch r.Intn(4) {
	case 0:
		return append([]byte{byte(r.Intn(8))<<5 | 28}, b...)
	case 1, 2:
		units := make([][]byte, r.Intn(5))
		for i := range units {
			units[i] = unit(r.Intn(32), 1+r.Intn(5))
		}
		b = together(units...)
		b[0] |= byte(r.Intn(8)) << 5
		if r.Intn(2) == 0 {
			b = b[:r.Intn(len(b)+1)]
		}
		if r.Intn(2) == 0 && len(b) > 0 {
			b[r.Intn(len(b))] ^= 1 << r.Intn(8)
		}
	}
	return b
}

// P14.1: Units.

func TestUnitsOrdinary(t *testing.T) {
	for i, c := range []struct {
		b []byte
		l []int
	}{
		{[]byte{0x65, 0x88, 0x84}, []int{5}}, {[]byte{0x41, 0x9a}, []int{1}}, {[]byte{0x67, 0x42, 0xc0}, []int{7}}, {[]byte{0x68, 0xce}, []int{8}}, {[]byte{0x06, 5}, []int{6}}, {[]byte{0x17}, []int{23}},
		{[]byte{0x78, 0, 2, 0x67, 0x42, 0, 3, 0x68, 0xce, 0x3c, 0, 1, 0x65}, []int{7, 8, 5}}, {[]byte{0x18, 0, 1, 0x41}, []int{1}}, {[]byte{0x58, 0, 2, 0x41, 0x9a, 0, 2, 0x41, 0x9b}, []int{1, 1}},
		{[]byte{0x7c, 0x85, 0x88}, []int{5}}, {[]byte{0x7c, 0x05, 0x88}, []int{5}}, {[]byte{0x7c, 0x45, 0x88, 0x84}, []int{5}}, {[]byte{0x5c, 0x81, 0x9a}, []int{1}},
	} {
		if l, e := avc.Units(c.b); !slices.Equal(l, c.l) || e != api.OK {
			t.Error(i, l, e)
		}
	}
}

func TestUnitsRefuses(t *testing.T) {
	for i, c := range []struct {
		b []byte
		e api.Errno
	}{
		{nil, api.ErrShort}, {[]byte{}, api.ErrShort}, {[]byte{24}, api.ErrShort}, {[]byte{28}, api.ErrShort}, {[]byte{28, 0x85}, api.ErrShort},
		{[]byte{24, 0}, api.ErrShort}, {[]byte{24, 0, 1}, api.ErrShort}, {[]byte{24, 0, 2, 0x65}, api.ErrShort}, {[]byte{24, 1, 0, 0x65}, api.ErrShort}, {[]byte{24, 0xff, 0xff, 0x65}, api.ErrShort},
		{[]byte{24, 0, 1, 0x65, 0}, api.ErrShort}, {[]byte{24, 0, 1, 0x65, 1}, api.ErrShort}, {[]byte{24, 0, 1, 0x65, 0, 1}, api.ErrShort}, {[]byte{24, 0, 1, 0x65, 0, 3, 0x65, 1}, api.ErrShort},
		{[]byte{0}, api.ErrForm}, {[]byte{0x60, 1, 2}, api.ErrForm}, {[]byte{25, 0, 1, 0x65}, api.ErrForm}, {[]byte{26, 0, 0, 0, 0, 0, 1}, api.ErrForm}, {[]byte{27, 0x85, 1}, api.ErrForm}, {[]byte{29, 0x85, 1}, api.ErrForm}, {[]byte{30, 1}, api.ErrForm}, {[]byte{31, 1}, api.ErrForm},
		{[]byte{24, 0, 0}, api.ErrForm}, {[]byte{24, 0, 0, 0x65}, api.ErrForm}, {[]byte{24, 0, 1, 0x65, 0, 0}, api.ErrForm}, {[]byte{24, 0, 1, 0}, api.ErrForm}, {[]byte{24, 0, 1, 0xe0}, api.ErrForm}, {[]byte{24, 0, 1, 0x65, 0, 2, 0x20, 5}, api.ErrForm},
		{[]byte{28, 0xc5, 1}, api.ErrForm}, {[]byte{28, 0xa5, 1}, api.ErrForm}, {[]byte{28, 0x25, 1}, api.ErrForm}, {[]byte{28, 0x65, 1}, api.ErrForm}, {[]byte{28, 0x80, 1}, api.ErrForm}, {[]byte{28, 0, 1}, api.ErrForm}, {[]byte{28, 0x98, 1}, api.ErrForm}, {[]byte{28, 0x9c, 1}, api.ErrForm}, {[]byte{28, 0x5f, 1}, api.ErrForm},
	} {
		if l, e := avc.Units(c.b); len(l) != 0 || e != c.e {
			t.Error(i, l, e)
		}
		if avc.Key(c.b) {
			t.Error(i, "begins a whole picture")
		}
	}
}

func TestUnitsOfOneUnit(t *testing.T) {
	// What is behind the first byte isn't looked at: there may be nothing, and it may look like anything.
	behind := [][]byte{nil, {0}, {0x65}, {0, 0}, {0xff, 0xff}, {0, 1, 0x60}, {0x85, 1}, {0xe5, 1, 2, 3}, make([]byte, 2000)}
	for first := range 256 {
		for _, rest := range behind {
			b := append([]byte{byte(first)}, rest...)
			l, e, key := check(t, b)
			kind := first % 32
			if kind < 1 || kind > 23 {
				continue
			}
			if e != api.OK || !slices.Equal(l, []int{kind}) || key != isWhole(kind) {
				t.Fatalf("%x: %d, %d, %t", short(b), l, e, key)
			}
		}
	}
}

func TestUnitsOfNoType(t *testing.T) {
	for first := range 256 {
		switch first % 32 {
		case 0, 25, 26, 27, 29, 30, 31:
			for size := range 12 {
				b := append([]byte{byte(first)}, []byte{0, 1, 0x65, 0, 1, 0x67, 0, 1, 0x68, 0x85, 0x85}[:size]...)
				if l, e, key := check(t, b); len(l) != 0 || e != api.ErrForm || key {
					t.Errorf("%x: %d, %d, %t", b, l, e, key)
				}
			}
		}
	}
}

func TestUnitsOfSeveral(t *testing.T) {
	for first := range 256 {
		kind := first % 32
		for _, high := range []byte{0, 0x20, 0x60, 0x80, 0xe0} {
			b := together([]byte{0x41, 7}, []byte{byte(first), 0x85, 1}, []byte{0x46})
			b[0] |= high
			l, e, key := check(t, b)
			if kind == 0 {
				if len(l) != 0 || e != api.ErrForm || key {
					t.Errorf("%x: %d, %d, %t", b, l, e, key)
				}
				continue
			}
			// Among several a type isn't looked at, even if it isn't one of a unit by itself.
			if e != api.OK || !slices.Equal(l, []int{1, kind, 6}) || key != isWhole(kind) {
				t.Errorf("%x: %d, %d, %t", b, l, e, key)
			}
		}
	}
}

func TestUnitsOfManyInOne(t *testing.T) {
	for _, many := range []int{1, 2, 3, 15, 16, 17, 255, 256, 1000} {
		var units [][]byte
		var want []int
		for i := range many {
			units, want = append(units, unit(1+i%31, 1+i%3)), append(want, 1+i%31)
		}
		if l, e, _ := check(t, together(units...)); e != api.OK || !slices.Equal(l, want) {
			t.Error(many, l, e)
		}
	}
}

func TestUnitsOfAllSizes(t *testing.T) {
	for _, size := range []int{1, 2, 3, 254, 255, 256, 257, 511, 512, 1199, 1200, 1201, 0x7fff, 0x8000, 0xff00, 0xfffe, 0xffff} {
		b := together(unit(1, size), unit(7, 2))
		if l, e, key := check(t, b); e != api.OK || !slices.Equal(l, []int{1, 7}) || !key {
			t.Error(size, l, e, key)
		}
		for _, lacking := range []int{1, 2, 3} {
			if _, e, key := check(t, b[:len(b)-lacking]); e != api.ErrShort || key {
				t.Error(size, lacking, e, key)
			}
		}
		if l, e, key := check(t, b[:len(b)-4]); e != api.OK || !slices.Equal(l, []int{1}) || key {
			t.Error(size, l, e, key)
		}
		if _, e, _ := check(t, b[:len(b)-5]); e != api.ErrShort {
			t.Error(size, e)
		}
	}
}

func TestUnitsOfSeveralCut(t *testing.T) {
	b := together(unit(7, 3), unit(8, 1), unit(31, 4), unit(5, 2))
	ends := map[int][]int{6: {7}, 9: {7, 8}, 15: {7, 8, 31}, 19: {7, 8, 31, 5}}
	for size := 1; size <= len(b); size++ {
		l, e, key := check(t, b[:size:size])
		want, whole := ends[size]
		if whole && (e != api.OK || !slices.Equal(l, want) || !key) {
			t.Error(size, l, e, key)
		}
		if !whole && (len(l) != 0 || e != api.ErrShort || key) {
			t.Error(size, l, e, key)
		}
	}
	for size := range 3 {
		more := append(bytes.Clone(b), make([]byte, size)...)
		if _, e, _ := check(t, more); (e == api.OK) != (size == 0) {
			t.Error(size, e)
		}
	}
}

func TestUnitsFirstWrongOneSaysWhich(t *testing.T) {
	for i, c := range []struct {
		b []byte
		e api.Errno
	}{
		// One that isn't as told is told ahead of a later one that isn't all there.
		{[]byte{24, 0, 0, 0}, api.ErrForm}, {[]byte{24, 0, 0, 0, 9, 1}, api.ErrForm}, {[]byte{24, 0, 1, 0x60, 0}, api.ErrForm}, {[]byte{24, 0, 1, 0x60, 0, 2, 0x65}, api.ErrForm}, {[]byte{24, 0, 1, 0x65, 0, 0, 7}, api.ErrForm}, {[]byte{24, 0, 1, 0x65, 0, 1, 0x80, 0, 5}, api.ErrForm},
		// One that isn't all there takes all that is behind, and is told even if its type is wrong.
		{[]byte{24, 0, 5, 0x65, 0, 0}, api.ErrShort}, {[]byte{24, 0, 2, 0x60}, api.ErrShort}, {[]byte{24, 0, 1, 0x65, 0, 4, 0, 0, 0}, api.ErrShort}, {[]byte{24, 1, 1, 0, 0, 0}, api.ErrShort},
	} {
		if l, e, key := check(t, c.b); len(l) != 0 || e != c.e || key {
			t.Errorf("%d, %x: %d, %d, %t", i, c.b, l, e, key)
		}
	}
}

func TestUnitsOfPieces(t *testing.T) {
	for _, first := range []byte{28, 0x3c, 0x5c, 0x7c, 0x9c, 0xfc} {
		for second := range 256 {
			kind := second % 32
			right := kind >= 1 && kind <= 23 && second/32%2 == 0 && second/64 != 3
			for _, size := range []int{1, 2, 3, 1300} {
				b := append([]byte{first, byte(second)}, make([]byte, size)...)
				l, e, key := check(t, b)
				if right && (e != api.OK || !slices.Equal(l, []int{kind}) || key != (isWhole(kind) && second >= 128)) {
					t.Errorf("%x: %d, %d, %t", short(b), l, e, key)
				}
				if !right && (len(l) != 0 || e != api.ErrForm || key) {
					t.Errorf("%x: %d, %d, %t", short(b), l, e, key)
				}
			}
			// Bytes that are lacking are told ahead of what is wrong.
			if l, e, key := check(t, []byte{first, byte(second)}); len(l) != 0 || e != api.ErrShort || key {
				t.Errorf("%x %x: %d, %d, %t", first, second, l, e, key)
			}
		}
		if l, e, key := check(t, []byte{first}); len(l) != 0 || e != api.ErrShort || key {
			t.Errorf("%x: %d, %d, %t", first, l, e, key)
		}
	}
}

func TestBeginningsOfAllLengths(t *testing.T) {
	thirds := []byte{0, 1, 2, 3, 5, 0x18, 0x1c, 0x60, 0x65, 0x7f, 0x80, 0xff}
	for first := range 256 {
		for second := range 256 {
			for _, third := range thirds {
				b := []byte{byte(first), byte(second), third, 0x65, 0, 1, 0x60, 7}
				for size := range len(b) + 1 {
					check(t, b[:size:size])
				}
			}
		}
	}
}

func TestSeveralOfFewBytes(t *testing.T) {
	// All payloads of up to seven of these bytes behind the first one.
	few := []byte{0, 1, 2, 0x65, 0x60}
	var grow func(b []byte)
	grow = func(b []byte) {
		check(t, b)
		if len(b) == 8 {
			return
		}
		for _, x := range few {
			grow(append(b[:len(b):len(b)], x))
		}
	}
	grow([]byte{24})
}

func TestByChance(t *testing.T) {
	r := rand.New(rand.NewSource(14))
	counts := map[api.Errno]int{}
	keys := 0
	for range 300000 {
		_, e, key := check(t, anyPayload(r))
		counts[e]++
		if key {
			keys++
		}
	}
	if counts[api.OK] < 50000 || counts[api.ErrShort] < 30000 || counts[api.ErrForm] < 30000 || keys < 10000 {
		t.Error("few of a sort:", counts, keys)
	}
}

func TestLongOnes(t *testing.T) {
	var units [][]byte
	for range 1 << 17 {
		units = append(units, []byte{0x41, 1})
	}
	if l, e, key := check(t, together(units...)); e != api.OK || len(l) != 1<<17 || key {
		t.Error(len(l), e, key)
	}
	if l, e, key := check(t, together(append(units, []byte{0x65})...)); e != api.OK || len(l) != 1<<17+1 || !key {
		t.Error(len(l), e, key)
	}
	for _, size := range []int{api.MaxPacket, api.MaxPacket + 1, 1 << 16, 1 << 20} {
		b := make([]byte, size)
		b[0] = 0x65
		if l, e, key := check(t, b); e != api.OK || !slices.Equal(l, []int{5}) || !key {
			t.Error(size, l, e, key)
		}
		b[0], b[1] = 0x7c, 0x87
		if l, e, key := check(t, b); e != api.OK || !slices.Equal(l, []int{7}) || !key {
			t.Error(size, l, e, key)
		}
	}
}

// P14.2: Key.

func TestKeyOrdinary(t *testing.T) {
	for i, c := range []struct {
		b   []byte
		key bool
	}{
		{[]byte{0x65, 0x88}, true}, {[]byte{0x67, 0x42}, true}, {[]byte{0x68}, true}, {[]byte{0x25}, true}, {[]byte{0x41, 0x9a}, false}, {[]byte{0x06, 5}, false}, {[]byte{0x09, 0x10}, false}, {[]byte{0x61, 0x65}, false},
		{[]byte{0x78, 0, 1, 0x67, 0, 1, 0x68}, true}, {[]byte{0x78, 0, 1, 0x41, 0, 1, 0x65}, true}, {[]byte{0x78, 0, 1, 0x65, 0, 1, 0x41}, true}, {[]byte{0x78, 0, 1, 0x41, 0, 2, 0x06, 0x65}, false},
		{[]byte{0x7c, 0x85, 1}, true}, {[]byte{0x7c, 0x87, 1}, true}, {[]byte{0x7c, 0x88, 1}, true}, {[]byte{0x7c, 0x81, 0x65}, false},
	} {
		if key := avc.Key(c.b); key != c.key {
			t.Error(i, key)
		}
	}
}

func TestKeyOfSeveralAtEachPlace(t *testing.T) {
	for many := 1; many <= 6; many++ {
		for at := range many {
			for kind := 1; kind < 32; kind++ {
				var units [][]byte
				for i := range many {
					units = append(units, unit(1+i%2*5, 1+i%2))
				}
				units[at] = unit(kind, 3)
				b := together(units...)
				if _, e, key := check(t, b); e != api.OK || key != isWhole(kind) {
					t.Errorf("%x: %d, %t", b, e, key)
				}
				// What is refused begins none, however good its beginning is.
				for _, behind := range [][]byte{{0}, {0, 0}, {0, 2, 0x65}, {0, 1, 0}} {
					if _, e, key := check(t, append(bytes.Clone(b), behind...)); e == api.OK || key {
						t.Errorf("%x %x: %d, %t", b, behind, e, key)
					}
				}
			}
		}
	}
}

// P14.3: a piece that doesn't begin a unit begins no picture.

func TestLaterPiecesBeginNoPicture(t *testing.T) {
	for kind := 1; kind <= 23; kind++ {
		for _, ends := range []byte{0, 64} {
			for _, first := range []byte{0x1c, 0x3c, 0x5c, 0x7c, 0xfc} {
				for _, behind := range [][]byte{{0}, {0x65}, {0x85, 0x67}, {0x80, 0, 1, 0x68}} {
					b := append([]byte{first, ends | byte(kind)}, behind...)
					if l, e, key := check(t, b); e != api.OK || !slices.Equal(l, []int{kind}) || key {
						t.Errorf("%x: %d, %d, %t", b, l, e, key)
					}
				}
			}
		}
	}
}

func TestOnePieceOfAUnitBegins(t *testing.T) {
	for kind := 1; kind <= 23; kind++ {
		for many := 2; many < 6; many++ {
			for i := range many {
				b := []byte{0x7c, byte(kind), 1, 2, 3}
				if i == 0 {
					b[1] |= 128
				}
				if i == many-1 {
					b[1] |= 64
				}
				if _, e, key := check(t, b); e != api.OK || key != (i == 0 && isWhole(kind)) {
					t.Error(kind, many, i, e, key)
				}
			}
		}
	}
}

// Rules 5 and 6.

func TestSharesNothing(t *testing.T) {
	for _, head := range [][]byte{{0x65, 1}, {0x7c, 0x85, 1}, {24, 0, 1, 0x67, 0, 1, 0x65}} {
		b := append(bytes.Clone(head), "spare room behind it"...)[:len(head)]
		was := bytes.Clone(b[:cap(b)])
		first, _ := avc.Units(b)
		second, _ := avc.Units(b)
		avc.Key(b)
		want := slices.Clone(second)
		for i := range first[:cap(first)] {
			first[:cap(first)][i] = -1
		}
		if !slices.Equal(second, want) || !bytes.Equal(b[:cap(b)], was) {
			t.Errorf("%x: an answer shares memory", head)
		}
		clear(b)
		if !slices.Equal(second, want) {
			t.Errorf("%x: an answer hangs on what was handed in", head)
		}
	}
}

func TestNothingIsKept(t *testing.T) {
	for range 3 {
		for _, b := range [][]byte{{0x7c, 0x05, 1}, {0x65}, nil, {0x7c, 0x85, 1}, {24, 0, 1}, {0x7c, 0x45, 1}, {0x60}, {24, 0, 1, 0x68}} {
			check(t, b)
		}
	}
}

func TestExamples(t *testing.T) {
	if l, e := avc.Units([]byte{0x65, 1, 2}); e != api.OK || !slices.Equal(l, []int{5}) || !avc.Key([]byte{0x65, 1, 2}) {
		t.Error(l, e)
	}
	if l, e := avc.Units([]byte{0x7c, 0x85, 0}); e != api.OK || !slices.Equal(l, []int{5}) || !avc.Key([]byte{0x7c, 0x85, 0}) {
		t.Error(l, e)
	}
	if l, e := avc.Units([]byte{0x7c, 0x05, 0}); e != api.OK || !slices.Equal(l, []int{5}) || avc.Key([]byte{0x7c, 0x05, 0}) {
		t.Error(l, e)
	}
}

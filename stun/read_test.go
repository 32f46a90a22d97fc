package stun_test

import (
	"bytes"
	"encoding/binary"
	"math/rand"
	"testing"

	"tenaille/api"
	"tenaille/stun"
)

// P12.1: Read.

func TestReadOrdinary(t *testing.T) {
	b := []byte{0x01, 0x11, 0, 16, 0x21, 0x12, 0xa4, 0x42, 1, 2, 3, 4, 5, 6, 7, 8, 9, 10, 11, 12,
		0x80, 0x22, 0, 2, 'h', 'i', 0, 0, 0, 6, 0, 4, 'n', 'a', 'm', 'e'}
	want := api.Stun{Type: 0x111, Tx: [12]byte{1, 2, 3, 4, 5, 6, 7, 8, 9, 10, 11, 12},
		Attrs: []api.Attr{{Type: 0x8022, Data: []byte("hi")}, {Type: 6, Data: []byte("name")}}}
	if m, e := stun.Read(b); e != api.OK || !alike(m, want) {
		t.Error(m, e)
	}
	if m, e := stun.Read(b[:len(b)-8]); e != api.ErrForm || !alike(m, api.Stun{}) {
		t.Error(m, e)
	}
}

func TestReadEachBit(t *testing.T) {
	for _, m := range []api.Stun{{}, {Type: 1}, sized(8), sized(1), full()} {
		good := modelWrite(m)
		if e := checkRead(t, good); e != api.OK {
			t.Fatal(e)
		}
		for bit := range 8 * len(good) {
			b := bytes.Clone(good)
			b[bit/8] ^= 0x80 >> (bit % 8)
			checkRead(t, b)
		}
	}
}

func TestReadTooShort(t *testing.T) {
	if e := checkRead(t, nil); e != api.ErrShort {
		t.Error(e)
	}
	// Fewer than 20 bytes are told ahead of all else that is wrong.
	for size := range 20 {
		for first := range 256 {
			b := modelWrite(sized())[:size]
			if size > 0 {
				b[0] = byte(first)
			}
			if e := checkRead(t, b); e != api.ErrShort {
				t.Error(size, first, e)
			}
		}
		if e := checkRead(t, make([]byte, size)); e != api.ErrShort {
			t.Error(size, e)
		}
	}
}

func TestReadTypes(t *testing.T) {
	for kind := range 1 << 16 {
		e := checkRead(t, head(uint16(kind), 0))
		if (e == api.OK) != (kind < 16384) || (e == api.ErrForm) != (kind >= 16384) {
			t.Fatal(kind, e)
		}
	}
}

func TestReadCookies(t *testing.T) {
	for at := 4; at < 8; at++ {
		for x := range 256 {
			b := modelWrite(sized(8))
			ok := b[at] == byte(x)
			b[at] = byte(x)
			if e := checkRead(t, b); (e == api.OK) != ok || (e == api.ErrForm) == ok {
				t.Error(at, x, e)
			}
		}
	}
}

func TestReadSaysHowLongItIs(t *testing.T) {
	// Behind the head stands one attribute that takes all bytes, if it can, so that what the message says alone makes it wrong.
	for _, behind := range []int{0, 1, 2, 3, 4, 5, 6, 7, 8, 11, 12, 13, 16, 255, 256, 260} {
		whole := make([]byte, behind)
		if behind >= 4 {
			whole[3] = byte(behind - 4)
		}
		for says := range 1 << 16 {
			b := append(head(1, says), whole...)
			e := checkRead(t, b)
			if e == api.OK && (says != behind || behind%4 != 0) || e == api.ErrShort {
				t.Fatal(behind, says, e)
			}
		}
	}
	// What is behind a message makes it none, and so does what lacks.
	good := modelWrite(full())
	for more := range 9 {
		if e := checkRead(t, append(bytes.Clone(good), make([]byte, more)...)); (e == api.OK) != (more == 0) {
			t.Error(more, e)
		}
	}
	for size := 20; size < len(good); size++ {
		if e := checkRead(t, good[:size]); e != api.ErrForm {
			t.Error(size, e)
		}
		// Nor is it one where its length says no more than is there, but where an attribute ends.
		checkRead(t, append(head(1, size-20), good[20:size]...))
	}
}

func TestReadLengthsThatWrapRound(t *testing.T) {
	// A message of 2^16 more bytes than it says isn't one.
	for _, behind := range []int{1 << 16, 1<<16 + 4, 1 << 17} {
		if e := checkRead(t, message(make([]byte, behind))); e != api.ErrForm {
			t.Error(behind, e)
		}
	}
	for _, behind := range []int{1<<16 - 4, 1<<16 - 1, 4176, 4160, 68, 64} {
		checkRead(t, message(make([]byte, behind)))
	}
}

// attribute is one that says it has so many bytes, with so many others behind its head.
func attribute(says, behind int) []byte {
	b := make([]byte, 4+behind)
	binary.BigEndian.PutUint16(b, 0x8001)
	binary.BigEndian.PutUint16(b[2:], uint16(says))
	for i := range min(says, behind) {
		b[4+i] = byte(i + 1)
	}
	return b
}

func TestReadAttributesOfAllLengths(t *testing.T) {
	for n := range 400 {
		padded := (n + 3) / 4 * 4
		e := checkRead(t, message(attribute(n, padded)))
		if (e == api.OK) != (n <= 255) || (e == api.ErrForm) != (n > 255) {
			t.Error(n, e)
		}
		// The same with another one ahead, and behind.
		checkRead(t, message(append(attribute(3, 4), attribute(n, padded)...)))
		checkRead(t, message(append(attribute(n, padded), attribute(3, 4)...)))
	}
}

func TestReadAttributesThatLack(t *testing.T) {
	for says := range 1 << 16 {
		for _, behind := range []int{0, 4, 8} {
			e := checkRead(t, message(attribute(says, behind)))
			if says > behind && e != api.ErrForm {
				t.Fatal(says, behind, e)
			}
		}
	}
	for says := range 300 {
		for behind := range 264 {
			if e := checkRead(t, message(attribute(says, behind))); behind < says && e != api.ErrForm {
				t.Fatal(says, behind, e)
			}
		}
	}
	// A head of one that isn't all there.
	for size := range 4 {
		for _, ahead := range [][]byte{nil, attribute(0, 0), attribute(8, 8)} {
			b := message(append(bytes.Clone(ahead), make([]byte, size)...))
			if e := checkRead(t, b); (e == api.OK) != (size == 0) {
				t.Error(size, len(ahead), e)
			}
		}
	}
}

func TestReadAttributesThatLackZeros(t *testing.T) {
	// The data are all there, but not all zeros are.
	for n := range 256 {
		for behind := n; behind < n+4; behind++ {
			for _, ahead := range [][]byte{nil, attribute(4, 4), attribute(1, 4)} {
				b := message(append(bytes.Clone(ahead), attribute(n, behind)...))
				e := checkRead(t, b)
				if whole := behind == (n+3)/4*4; whole != (e == api.OK) || whole == (e == api.ErrForm) {
					t.Fatal(n, behind, e)
				}
			}
		}
	}
}

func TestReadLooksAtZeros(t *testing.T) {
	for n := range 256 {
		padded := (n + 3) / 4 * 4
		for at := n; at < padded; at++ {
			for _, x := range []byte{1, 0x20, 0x80, 0xff} {
				bad := attribute(n, padded)
				bad[4+at] = x
				good := attribute(1, 4)
				for _, behind := range [][]byte{bad, append(bytes.Clone(good), bad...), append(bytes.Clone(bad), good...)} {
					if e := checkRead(t, message(behind)); e != api.ErrForm {
						t.Fatal(n, at, x, e)
					}
				}
			}
		}
	}
	for x := range 256 {
		b := modelWrite(sized(1))
		b[len(b)-1] = byte(x)
		if e := checkRead(t, b); (e == api.OK) != (x == 0) {
			t.Error(x, e)
		}
	}
}

func TestReadHowManyAttributes(t *testing.T) {
	for _, n := range []int{0, 1, 4, 255} {
		for many := range 40 {
			var lengths []int
			for range many {
				lengths = append(lengths, n)
			}
			b := modelWrite(sized(lengths...))
			e := checkRead(t, b)
			if (e == api.OK) != (many <= 16) || (e == api.ErrForm) != (many > 16) {
				t.Error(n, many, e)
			}
			if many == 0 {
				continue
			}
			// The last one is looked at, too.
			last := len(b) - (n+3)/4*4 - 4
			b[last+2] = 1
			if e := checkRead(t, b); e != api.ErrForm {
				t.Error(n, many, e)
			}
		}
	}
}

func TestReadAttributeTypes(t *testing.T) {
	for kind := range 1 << 16 {
		b := modelWrite(sized(2))
		binary.BigEndian.PutUint16(b[20:], uint16(kind))
		if e := checkRead(t, b); e != api.OK {
			t.Fatal(kind, e)
		}
	}
}

func TestReadByChance(t *testing.T) {
	r := rand.New(rand.NewSource(12))
	for range 40000 {
		b := anyBytes(r, r.Intn(60))
		checkRead(t, b)
		b = message(anyBytes(r, 4*r.Intn(12)))
		for at := 22; at < len(b); at += 4 * (1 + r.Intn(3)) {
			b[at], b[at+1] = 0, b[at+1]%16
		}
		checkRead(t, b)
		b = modelWrite(anyMessage(r))
		if r.Intn(3) == 0 {
			b = b[:r.Intn(len(b)+1)]
		}
		for range r.Intn(3) {
			if len(b) > 0 {
				b[r.Intn(len(b))] = byte(r.Intn(9))
			}
		}
		if len(b) >= 20 && r.Intn(3) == 0 {
			binary.BigEndian.PutUint16(b[2:], uint16(len(b)-20))
		}
		checkRead(t, b)
	}
}

// scribble writes to all of a message's lists, and behind their ends.
func scribble(m *api.Stun) {
	for i := range m.Attrs {
		data := m.Attrs[i].Data
		for at := range data[:cap(data)] {
			data[:cap(data)][at] ^= 0xff
		}
		m.Attrs[i].Type++
		m.Attrs[i].Data = append(data, 0x77)
	}
	m.Attrs = append(m.Attrs, api.Attr{Type: 9})
}

func TestReadAnswersItsOwn(t *testing.T) {
	b := append(modelWrite(full()), "spare"...)
	b = b[:len(b)-5]
	was := bytes.Clone(b)
	m, e := stun.Read(b)
	n, _ := stun.Read(b)
	if e != api.OK || !alike(m, full()) {
		t.Fatal(m, e)
	}
	for i := range b {
		b[i] ^= 0xff
	}
	if !alike(m, full()) {
		t.Error("a message that was told hangs on the bytes handed in")
	}
	copy(b, was)
	scribble(&m)
	if !bytes.Equal(b, was) || string(b[:len(b)+5][len(b):]) != "spare" {
		t.Error("the bytes handed in hang on a message that was told")
	}
	if !alike(n, full()) {
		t.Error("two answers share memory")
	}
}

func TestReadAttributesShareNothing(t *testing.T) {
	want := full()
	for i := range want.Attrs {
		m, _ := stun.Read(modelWrite(want))
		data := m.Attrs[i].Data
		for at := range data[:cap(data)] {
			data[:cap(data)][at] ^= 0xff
		}
		_ = append(data, 0x77, 0x77, 0x77, 0x77, 0x77, 0x77, 0x77, 0x77)
		for j := range want.Attrs {
			if i != j && !bytes.Equal(m.Attrs[j].Data, want.Attrs[j].Data) {
				t.Error(i, "shares memory with", j)
			}
		}
	}
}

// P12.2: Is.

func TestIsOfAllFirstBytes(t *testing.T) {
	for first := range 256 {
		for size := range 45 {
			b := make([]byte, size)
			for i := range b {
				b[i] = byte(0xf0 + i)
			}
			copy(b[min(size, 4):], magic)
			if size > 0 {
				b[0] = byte(first)
			}
			if is := size >= 20 && first < 64; stun.Is(b) != is {
				t.Error(first, size, !is)
			}
		}
	}
	if stun.Is(nil) {
		t.Error("nil")
	}
}

func TestIsLooksAtTheCookieAlone(t *testing.T) {
	for at := 4; at < 8; at++ {
		for x := range 256 {
			b := modelWrite(full())
			is := b[at] == byte(x)
			b[at] = byte(x)
			if stun.Is(b) != is {
				t.Error(at, x, !is)
			}
		}
	}
	// Nothing but these bytes is looked at: what looks like a message needn't be one.
	r := rand.New(rand.NewSource(2))
	for range 20000 {
		b := anyBytes(r, 20+r.Intn(30))
		b[0] &= 0x3f
		if stun.Is(b) {
			t.Errorf("%x", b)
		}
		copy(b[4:], magic)
		if !stun.Is(b) {
			t.Errorf("%x", b)
		}
	}
	// The number elsewhere isn't in its place.
	for at := range 17 {
		b := make([]byte, 20)
		copy(b[at:], magic)
		if stun.Is(b) != (at == 4) {
			t.Error(at)
		}
	}
}

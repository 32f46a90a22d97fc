package stun_test

import (
	"bytes"
	"encoding/binary"
	"math/rand"
	"slices"
	"testing"

	"tenaille/api"
	"tenaille/stun"
)

// The model goes by the chapter's words, with places counted from the beginning.

var magic = []byte{0x21, 0x12, 0xa4, 0x42}

// modelRead tells the message that all bytes are, and an error.
func modelRead(b []byte) (api.Stun, api.Errno) {
	if len(b) < 20 {
		return api.Stun{}, api.ErrShort
	}
	behind := int(binary.BigEndian.Uint16(b[2:]))
	if b[0] >= 64 || behind%4 != 0 || behind != len(b)-20 || !bytes.Equal(b[4:8], magic) {
		return api.Stun{}, api.ErrForm
	}
	m := api.Stun{Type: binary.BigEndian.Uint16(b)}
	copy(m.Tx[:], b[8:])
	at := 20
	for at < len(b) {
		size := int(binary.BigEndian.Uint16(b[at+2:]))
		next := at + 4 + (size+3)/4*4
		if size > 255 || next > len(b) || len(m.Attrs) == 16 {
			return api.Stun{}, api.ErrForm
		}
		for _, x := range b[at+4+size : next] {
			if x != 0 {
				return api.Stun{}, api.ErrForm
			}
		}
		m.Attrs = append(m.Attrs, api.Attr{Type: binary.BigEndian.Uint16(b[at:]), Data: bytes.Clone(b[at+4 : at+4+size])})
		at = next
	}
	return m, api.OK
}

// modelMay tells whether a message may be.
func modelMay(m api.Stun) bool {
	tooLong := func(a api.Attr) bool { return len(a.Data) >= 256 }
	return m.Type>>14 == 0 && len(m.Attrs) <= 16 && !slices.ContainsFunc(m.Attrs, tooLong)
}

// modelWrite is the bytes of a message, may it be or not.
func modelWrite(m api.Stun) []byte {
	b := binary.BigEndian.AppendUint16(nil, m.Type)
	b = append(b, 0, 0)
	b = append(b, magic...)
	b = append(b, m.Tx[:]...)
	for _, a := range m.Attrs {
		b = binary.BigEndian.AppendUint16(b, a.Type)
		b = binary.BigEndian.AppendUint16(b, uint16(len(a.Data)))
		b = append(b, a.Data...)
		for len(b)%4 != 0 {
			b = append(b, 0)
		}
	}
	binary.BigEndian.PutUint16(b[2:], uint16(len(b)-20))
	return b
}

// modelAnswer is the answer to bytes, and whether they have one.
func modelAnswer(b []byte, from api.Tuple) ([]byte, bool) {
	m, e := modelRead(b)
	if e != api.OK || m.Type != 1 || len(b) < 32 {
		return nil, false
	}
	a := []byte{1, 1, 0, 12}
	a = append(a, magic...)
	a = append(a, b[8:20]...)
	a = append(a, 0, 32, 0, 8, 0, 1)
	a = binary.BigEndian.AppendUint16(a, from.Port^0x2112)
	return binary.BigEndian.AppendUint32(a, from.Addr^0x2112a442), true
}

// alike tells whether two messages are one; lists that are nil are as empty ones.
func alike(m, n api.Stun) bool {
	same := func(a, b api.Attr) bool { return a.Type == b.Type && bytes.Equal(a.Data, b.Data) }
	return m.Type == n.Type && m.Tx == n.Tx && slices.EqualFunc(m.Attrs, n.Attrs, same)
}

func copyOf(m api.Stun) api.Stun {
	m.Attrs = slices.Clone(m.Attrs)
	for i := range m.Attrs {
		m.Attrs[i].Data = bytes.Clone(m.Attrs[i].Data)
	}
	return m
}

// checkRead holds Read, Is and Answer against the model, and looks whether b is what it was.
func checkRead(t *testing.T, b []byte) api.Errno {
	t.Helper()
	was := bytes.Clone(b)
	want, code := modelRead(b)
	m, e := stun.Read(b)
	if e != code || !alike(m, want) {
		t.Fatalf("Read(%x): %+v, %d, asked for: %+v, %d", was, m, e, want, code)
	}
	if is := len(b) >= 20 && b[0] < 64 && bytes.Equal(b[4:8], magic); stun.Is(b) != is {
		t.Fatalf("Is(%x): %t", was, !is)
	}
	checkAnswer(t, b, api.Tuple{Addr: 0xc0000201, Port: 32853})
	if !bytes.Equal(b, was) {
		t.Fatalf("%x has become %x", was, b)
	}
	return e
}

// checkAnswer holds Answer against the model.
func checkAnswer(t *testing.T, b []byte, from api.Tuple) bool {
	t.Helper()
	want, has := modelAnswer(b, from)
	a, ok := stun.Answer(b, from)
	if ok != has || !bytes.Equal(a, want) {
		t.Fatalf("Answer(%x, %+v): %x, %t, asked for: %x, %t", b, from, a, ok, want, has)
	}
	if len(a) > len(b) {
		t.Fatalf("%d bytes are answered with %d", len(b), len(a))
	}
	return ok
}

// checkWrite holds Write against the model, and looks whether the message is what it was.
func checkWrite(t *testing.T, m api.Stun) []byte {
	t.Helper()
	was := copyOf(m)
	b, e := stun.Write(m)
	if modelMay(m) {
		if want := modelWrite(m); e != api.OK || !bytes.Equal(b, want) {
			t.Fatalf("Write(%+v): %x, %d, asked for: %x", m, b, e, want)
		}
	} else if len(b) != 0 || e != api.ErrArg {
		t.Fatalf("type %d, %d attributes: %d bytes, %d", m.Type, len(m.Attrs), len(b), e)
	}
	if !alike(m, was) {
		t.Fatalf("%+v has become %+v", was, m)
	}
	return b
}

// head is the twenty bytes ahead of so many others.
func head(kind uint16, behind int) []byte {
	b := modelWrite(api.Stun{Type: kind, Tx: [12]byte{1, 2, 3, 4, 5, 6, 7, 8, 9, 10, 11, 12}})
	binary.BigEndian.PutUint16(b[2:], uint16(behind))
	return b
}

// message is the bytes of one whose attributes are these bytes.
func message(behind []byte) []byte {
	return append(head(1, len(behind)), behind...)
}

// sized is a message with attributes of these lengths.
func sized(lengths ...int) api.Stun {
	m := api.Stun{Type: 1}
	for i, n := range lengths {
		m.Attrs = append(m.Attrs, api.Attr{Type: uint16(0x101 * (i + 1)), Data: bytes.Repeat([]byte{byte(0xa0 + i)}, n)})
	}
	return m
}

// full is a message that has attributes with zeros behind them, and without.
func full() api.Stun {
	m := sized(0, 1, 2, 3, 4, 5, 255)
	m.Tx = [12]byte{0xf0, 1, 2, 3, 4, 5, 6, 7, 8, 9, 10, 0xff}
	return m
}

// anyMessage is one by chance that may be.
func anyMessage(r *rand.Rand) api.Stun {
	m := api.Stun{Type: uint16(r.Intn(1 << 14))}
	if r.Intn(2) == 0 {
		m.Type = 1
	}
	r.Read(m.Tx[:])
	for range r.Intn(17) {
		n := r.Intn(10)
		if r.Intn(6) == 0 {
			n = r.Intn(256)
		}
		m.Attrs = append(m.Attrs, api.Attr{Type: uint16(r.Uint32()), Data: anyBytes(r, n)})
	}
	return m
}

func anyBytes(r *rand.Rand, n int) []byte {
	b := make([]byte, n)
	r.Read(b)
	return b
}

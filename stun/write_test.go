package stun_test

import (
	"bytes"
	"math/rand"
	"testing"

	"tenaille/api"
	"tenaille/stun"
)

// P12.1: Write.

func TestWriteZero(t *testing.T) {
	want := []byte{0, 0, 0, 0, 0x21, 0x12, 0xa4, 0x42, 0, 0, 0, 0, 0, 0, 0, 0, 0, 0, 0, 0}
	for _, m := range []api.Stun{{}, {Attrs: []api.Attr{}}} {
		if b := checkWrite(t, m); !bytes.Equal(b, want) {
			t.Errorf("%x", b)
		}
	}
	for _, m := range []api.Stun{{Attrs: []api.Attr{{}}}, {Attrs: []api.Attr{{Data: []byte{}}}}} {
		if b := checkWrite(t, m); len(b) != 24 || b[3] != 4 || !bytes.Equal(b[20:], make([]byte, 4)) {
			t.Errorf("%x", b)
		}
	}
}

func TestWriteTypes(t *testing.T) {
	for kind := range 1 << 16 {
		b := checkWrite(t, api.Stun{Type: uint16(kind)})
		if (len(b) == 20) != (kind < 16384) {
			t.Fatal(kind, len(b))
		}
	}
}

func TestWriteTransactions(t *testing.T) {
	for bit := range 12 * 8 {
		m := sized(1)
		m.Tx[bit/8] = 0x80 >> (bit % 8)
		if b := checkWrite(t, m); !bytes.Equal(b[8:20], m.Tx[:]) {
			t.Errorf("%x", b)
		}
	}
}

func TestWriteHowManyAttributes(t *testing.T) {
	for _, n := range []int{0, 1, 3, 4, 5, 255} {
		for many := range 40 {
			var lengths []int
			for range many {
				lengths = append(lengths, n)
			}
			b := checkWrite(t, sized(lengths...))
			if many <= 16 && len(b) != 20+many*(4+(n+3)/4*4) || many > 16 && len(b) != 0 {
				t.Error(n, many, len(b))
			}
		}
	}
	for _, many := range []int{256, 272, 1 << 14, 1 << 16, 1<<16 + 16} {
		checkWrite(t, api.Stun{Attrs: make([]api.Attr, many)})
	}
}

func TestWriteAttributesOfAllLengths(t *testing.T) {
	for n := range 600 {
		b := checkWrite(t, sized(n))
		if (len(b) == 0) != (n > 255) {
			t.Error(n, len(b))
		}
	}
	for _, n := range []int{1 << 16, 1<<16 + 1, 1<<16 + 255, 1 << 20} {
		checkWrite(t, sized(n))
	}
	// One that is too long is refused wherever it stands.
	for many := range 17 {
		for at := range many {
			lengths := make([]int, many)
			lengths[at] = 255
			if b := checkWrite(t, sized(lengths...)); len(b) == 0 {
				t.Error(many, at)
			}
			lengths[at] = 256
			if b := checkWrite(t, sized(lengths...)); len(b) != 0 {
				t.Error(many, at)
			}
		}
	}
}

func TestWriteAttributeTypes(t *testing.T) {
	for kind := range 1 << 16 {
		m := sized(5, 2)
		m.Attrs[1].Type = uint16(kind)
		checkWrite(t, m)
	}
}

func TestWriteByChance(t *testing.T) {
	r := rand.New(rand.NewSource(21))
	for range 20000 {
		m := anyMessage(r)
		checkWrite(t, m)
		switch r.Intn(4) {
		case 0:
			m.Type |= uint16(1+r.Intn(3)) << 14
		case 1:
			m.Attrs = append(m.Attrs, api.Attr{Data: make([]byte, 250+r.Intn(12))})
		case 2:
			m.Attrs = append(m.Attrs, m.Attrs...)
		}
		checkWrite(t, m)
	}
}

func TestWriteSharesNothing(t *testing.T) {
	m := full()
	for i := range m.Attrs {
		m.Attrs[i].Data = append(make([]byte, 0, 400), m.Attrs[i].Data...)
	}
	was := copyOf(m)
	first, second := checkWrite(t, m), checkWrite(t, m)
	for i := range first[:cap(first)] {
		first[:cap(first)][i] = 0x55
	}
	if !alike(m, was) || !bytes.Equal(second, modelWrite(was)) {
		t.Error("an answer shares memory")
	}
	for _, a := range m.Attrs {
		for _, x := range a.Data[len(a.Data):cap(a.Data)] {
			if x != 0 {
				t.Fatal("spare room of what was handed in is written to")
			}
		}
	}
	scribble(&m)
	if !bytes.Equal(second, modelWrite(was)) {
		t.Error("an answer hangs on what was handed in")
	}
}

// P12.3: Answer.

func TestAnswerAsItIsPrinted(t *testing.T) {
	// The place and its bytes are those that RFC 5769 prints.
	b := modelWrite(sized(8))
	a, ok := stun.Answer(b, api.Tuple{Addr: 192<<24 | 2<<8 | 1, Port: 32853})
	want := append([]byte{1, 1, 0, 12, 0x21, 0x12, 0xa4, 0x42}, b[8:20]...)
	want = append(want, 0, 0x20, 0, 8, 0, 1, 0xa1, 0x47, 0xe1, 0x12, 0xa6, 0x43)
	if !ok || !bytes.Equal(a, want) {
		t.Errorf("%x, %t", a, ok)
	}
}

func TestAnswerTellsThePlace(t *testing.T) {
	b := modelWrite(full())
	for port := range 1 << 16 {
		checkAnswer(t, b, api.Tuple{Port: uint16(port)})
	}
	for bit := range 32 {
		checkAnswer(t, b, api.Tuple{Addr: 1 << bit})
	}
	for _, from := range []api.Tuple{{}, {Addr: 1<<32 - 1, Port: 1<<16 - 1}, {Addr: 0x2112a442, Port: 0x2112}} {
		if !checkAnswer(t, b, from) {
			t.Error(from)
		}
	}
}

func TestAnswerTellsTheTransaction(t *testing.T) {
	for bit := range 12 * 8 {
		m := sized(8)
		m.Tx[bit/8] = 0x80 >> (bit % 8)
		a, ok := stun.Answer(modelWrite(m), api.Tuple{Addr: 1, Port: 2})
		if !ok || !bytes.Equal(a[8:20], m.Tx[:]) {
			t.Errorf("%x, %t", a, ok)
		}
	}
}

func TestAnswerToRequestsAlone(t *testing.T) {
	for kind := range 1 << 16 {
		m := sized(8)
		m.Type = uint16(kind)
		if ok := checkAnswer(t, modelWrite(m), api.Tuple{Addr: 3, Port: 4}); ok != (kind == 1) {
			t.Fatal(kind, ok)
		}
	}
	// An answer isn't answered.
	a, _ := stun.Answer(modelWrite(sized(8)), api.Tuple{})
	if checkAnswer(t, a, api.Tuple{}) {
		t.Error("an answer to an answer")
	}
}

func TestAnswerToLongEnoughOnes(t *testing.T) {
	for _, lengths := range [][]int{nil, {0}, {1}, {4}, {0, 0}, {3}, {5}, {8}, {0, 0, 0}, {0, 4}, {4, 0}, {9}, {255}, {1, 1}} {
		b := modelWrite(sized(lengths...))
		if ok := checkAnswer(t, b, api.Tuple{Addr: 5, Port: 6}); ok != (len(b) >= 32) {
			t.Error(lengths, len(b), ok)
		}
	}
	var most []int
	for range 16 {
		most = append(most, 255)
	}
	if !checkAnswer(t, modelWrite(sized(most...)), api.Tuple{Addr: 7, Port: 8}) {
		t.Error("the longest request has no answer")
	}
}

func TestAnswerToWellFormedOnesAlone(t *testing.T) {
	good := modelWrite(sized(7, 8))
	turned := func(at int, x byte) []byte {
		b := bytes.Clone(good)
		b[at] = x
		return b
	}
	for i, b := range [][]byte{nil, good[:19], good[:32], good[:len(good)-1], append(bytes.Clone(good), 0, 0, 0, 0), turned(0, 0x40), turned(0, 0xc0),
		turned(3, 20), turned(3, 28), turned(4, 0), turned(7, 0x43), turned(22, 1), turned(23, 9), turned(31, 1)} {
		if checkAnswer(t, b, api.Tuple{Addr: 9, Port: 10}) {
			t.Error(i)
		}
	}
	var many []int
	for range 17 {
		many = append(many, 4)
	}
	for _, m := range []api.Stun{sized(many...), sized(256)} {
		if checkAnswer(t, modelWrite(m), api.Tuple{}) {
			t.Error("a message that may not be has an answer")
		}
	}
}

func TestAnswerSharesNothing(t *testing.T) {
	b := append(modelWrite(sized(8)), "spare room behind it"...)
	b = b[:32]
	was := bytes.Clone(b[:cap(b)])
	from := api.Tuple{Addr: 11, Port: 12}
	first, _ := stun.Answer(b, from)
	second, _ := stun.Answer(b, from)
	want, _ := modelAnswer(b, from)
	for i := range first[:cap(first)] {
		first[:cap(first)][i] ^= 0xff
	}
	if !bytes.Equal(b[:cap(b)], was) || !bytes.Equal(second, want) {
		t.Error("an answer shares memory")
	}
	for i := range b {
		b[i] ^= 0xff
	}
	if !bytes.Equal(second, want) {
		t.Error("an answer hangs on what was handed in")
	}
}

// P12.4: no answer is longer, and there and back.

func TestNoAnswerIsLonger(t *testing.T) {
	r := rand.New(rand.NewSource(43))
	answered := 0
	for range 40000 {
		b := modelWrite(anyMessage(r))
		if r.Intn(2) == 0 {
			b = message(make([]byte, 4*r.Intn(8)))
		}
		from := api.Tuple{Addr: r.Uint32(), Port: uint16(r.Uint32())}
		a, ok := stun.Answer(b, from)
		if len(a) > len(b) || ok != (len(a) > 0) {
			t.Fatalf("%x is answered with %x, %t", b, a, ok)
		}
		if !ok {
			continue
		}
		answered++
		m, e := stun.Read(a)
		if e != api.OK || m.Type != 257 || len(m.Attrs) != 1 || m.Attrs[0].Type != 32 || !stun.Is(a) {
			t.Fatalf("%x is no answer: %+v, %d", a, m, e)
		}
	}
	if answered < 10000 {
		t.Error("few were answered:", answered)
	}
}

func TestWhatIsWrittenIsRead(t *testing.T) {
	r := rand.New(rand.NewSource(41))
	messages := []api.Stun{{}, full(), {Type: 16383}, {Attrs: make([]api.Attr, 16)}, sized(255, 255, 255, 255, 255, 255, 255, 255, 255, 255, 255, 255, 255, 255, 255, 255)}
	for range 20000 {
		messages = append(messages, anyMessage(r))
	}
	for _, m := range messages {
		b, e := stun.Write(m)
		if e != api.OK || !stun.Is(b) {
			t.Fatal(m, e)
		}
		n, e := stun.Read(b)
		if e != api.OK || !alike(m, n) {
			t.Fatalf("%+v is read as %+v, %d", m, n, e)
		}
	}
}

func TestWhatIsReadIsWrittenAgain(t *testing.T) {
	r := rand.New(rand.NewSource(42))
	read := 0
	for range 60000 {
		b := message(anyBytes(r, 4*r.Intn(6)))
		for at := 22; at < len(b); at += 4 {
			b[at], b[at+1] = 0, b[at+1]%3*4
		}
		if r.Intn(2) == 0 {
			b = modelWrite(anyMessage(r))
		}
		m, e := stun.Read(b)
		if e != api.OK {
			continue
		}
		read++
		if again, e := stun.Write(m); e != api.OK || !bytes.Equal(again, b) {
			t.Fatalf("%x is written as %x, %d", b, again, e)
		}
	}
	if read < 30000 {
		t.Error("few were read:", read)
	}
}

// Rule 6: the same is answered to the same, whatever was asked between.
func TestNothingIsKept(t *testing.T) {
	b := modelWrite(full())
	from := api.Tuple{Addr: 13, Port: 14}
	for range 3 {
		m, e := stun.Read(b)
		if e != api.OK || !alike(m, full()) || !checkAnswer(t, b, from) || !stun.Is(b) {
			t.Error(m, e)
		}
		stun.Read(nil)
		stun.Read(message(attribute(9, 8)))
		stun.Write(api.Stun{Type: 1 << 14})
		stun.Answer(modelWrite(sized()), from)
	}
}

func TestExamples(t *testing.T) {
	if a, ok := stun.Answer(modelWrite(sized()), api.Tuple{Addr: 1, Port: 1}); ok || len(a) != 0 {
		t.Errorf("%x", a)
	}
	b := modelWrite(sized(8))
	if a, ok := stun.Answer(b, api.Tuple{Addr: 1, Port: 1}); !ok || len(b) != 32 || len(a) != 32 {
		t.Errorf("%x", a)
	}
}

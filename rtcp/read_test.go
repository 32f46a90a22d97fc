package rtcp_test

import (
	"bytes"
	"encoding/binary"
	"math/rand"
	"reflect"
	"slices"
	"testing"

	"tenaille/api"
	"tenaille/rtcp"
)

// P11.1: Read.

// packetOf is a packet's bytes of a first byte, a type and a body.
func packetOf(first, sort byte, body []byte) []byte {
	b := []byte{first, sort, 0, 0}
	binary.BigEndian.PutUint16(b[2:], uint16(len(body)/4))
	return append(b, body...)
}

func TestReadEachKind(t *testing.T) {
	for _, kind := range kinds() {
		for _, c := range []api.Ctrl{sample(kind), least(kind), most(kind, 16)} {
			if e := checkRead(t, modelWrite(c)); e != api.OK {
				t.Error(kind, e)
			}
		}
	}
}

func TestReadTooLong(t *testing.T) {
	// Packets of any length one behind the other, so that the length alone is wrong.
	for size := 1180; size <= 1400; size += 4 {
		b := modelWrite(most(api.KindSR, 16), most(api.KindSR, 16))
		for len(b) < size {
			b = append(b, modelWrite(most(api.KindBye, min(16, (size-len(b))/4-1)))...)
		}
		e := checkRead(t, b)
		if size <= 1200 && e != api.OK || size > 1200 && e != api.ErrForm {
			t.Error(size, e)
		}
		if e := checkRead(t, b[:size-1]); size > 1201 && e != api.ErrForm || size <= 1200 && e != api.ErrShort {
			t.Error(size-1, e)
		}
	}
	// It is told ahead of all: packets that aren't all there are as wrong.
	for _, size := range []int{1201, 1202, 1203, 1204, 2400, 65536, 1 << 20} {
		for _, first := range []byte{0, 0x80, 0x81, 0xFF} {
			b := bytes.Repeat([]byte{first, 201, 0xFF, 0xFF}, (size+3)/4)[:size]
			if e := checkRead(t, b); e != api.ErrForm {
				t.Error(size, first, e)
			}
		}
	}
}

func TestReadTooShort(t *testing.T) {
	for _, b := range [][]byte{nil, {}, make([]byte, 0, 9)} {
		if e := checkRead(t, b); e != api.ErrShort {
			t.Error(e)
		}
	}
	// Fewer than four bytes, or than the words tell, are told ahead of all that is wrong in a packet.
	for first := range 256 {
		for _, sort := range []byte{0, 1, 199, 200, 201, 202, 203, 204, 205, 206, 207, 255} {
			b := []byte{byte(first), sort, 0, 2, 0, 0, 0, 0, 0, 0, 0, 0}
			for size := range len(b) {
				if e := checkRead(t, b[:size]); e != api.ErrShort {
					t.Error(first, sort, size, e)
				}
			}
			checkRead(t, b)
		}
	}
	for _, words := range []int{1, 2, 255, 256, 299, 300, 65535} {
		b := []byte{0x80, 201, byte(words >> 8), byte(words)}
		for len(b) < 4+4*words && len(b) <= 1200 {
			if e := checkRead(t, b); e != api.ErrShort {
				t.Error(words, len(b), e)
			}
			b = append(b, 0)
		}
	}
}

func TestReadEachKindCut(t *testing.T) {
	for _, kind := range kinds() {
		b := modelWrite(sample(kind))
		for size := range len(b) {
			if e := checkRead(t, b[:size]); e != api.ErrShort {
				t.Error(kind, size, e)
			}
			// Whole by its own words, but lacking in what it has.
			if size >= 4 && size%4 == 0 {
				checkRead(t, packetOf(b[0], b[1], b[4:size]))
			}
		}
		for more := 4; more <= 40; more += 4 {
			for _, fill := range []byte{0, 1, 33} {
				checkRead(t, packetOf(b[0], b[1], append(b[4:len(b):len(b)], bytes.Repeat([]byte{fill}, more)...)))
			}
		}
	}
}

func TestReadAllHeads(t *testing.T) {
	for first := range 256 {
		for sort := range 256 {
			for words := range 21 {
				checkRead(t, packetOf(byte(first), byte(sort), make([]byte, 4*words)))
			}
		}
	}
}

func TestReadAllCountsAtAllLengths(t *testing.T) {
	// Lists of more than 16, and lengths that aren't those of the count.
	for _, sort := range []byte{200, 201, 203, 205, 206} {
		for count := range 32 {
			for words := range 200 {
				checkRead(t, packetOf(0x80+byte(count), sort, make([]byte, 4*words)))
			}
		}
	}
	for count := range 32 {
		for names := range 32 {
			b := modelWrite(most(api.KindSDES, names))
			b[0] = 0x80 + byte(count)
			if e := checkRead(t, b); (e == api.OK) != (count == names && count <= 16) {
				t.Error(count, names, e)
			}
		}
	}
	for many := range 256 {
		for sources := range 32 {
			b := modelWrite(most(api.KindRemb, sources))
			b[16] = byte(many)
			if e := checkRead(t, b); (e == api.OK) != (many == sources && many <= 16) {
				t.Error(many, sources, e)
			}
		}
	}
}

func TestReadListsOfEachLength(t *testing.T) {
	for _, kind := range kinds() {
		if kind == api.KindPli {
			continue
		}
		atLeast := len(least(kind).Losses) + len(least(kind).Firs)
		for n := range 32 {
			if e := checkRead(t, modelWrite(most(kind, n))); (e == api.OK) != (n >= atLeast && n <= 16) {
				t.Error(kind, n, e)
			}
		}
	}
}

func TestReadEachByteTurned(t *testing.T) {
	for _, kind := range kinds() {
		for _, c := range []api.Ctrl{sample(kind), least(kind)} {
			b := modelWrite(c)
			for at := range b {
				was := b[at]
				for x := range 256 {
					b[at] = byte(x)
					checkRead(t, b)
				}
				b[at] = was
			}
		}
	}
}

func TestReadLost(t *testing.T) {
	b := modelWrite(most(api.KindRR, 1))
	for x := range 1 << 24 {
		if x%251 > 1 && x&0xFFFF > 1 && x&0xFFFF < 0xFFFE {
			continue
		}
		b[13], b[14], b[15] = byte(x>>16), byte(x>>8), byte(x)
		want := int32(x)
		if x >= 1<<23 {
			want -= 1 << 24
		}
		l, e := rtcp.Read(b)
		if e != api.OK || l[0].Reports[0].Lost != want {
			t.Fatal(x, l, e)
		}
	}
}

func TestReadNames(t *testing.T) {
	// Each length that is told, of as many bytes, with each number of zeros behind it.
	for told := range 256 {
		for size := range 40 {
			for zeros := range 12 {
				if (size+zeros+6)%4 != 0 {
					continue
				}
				body := []byte{9, 8, 7, 6, 1, byte(told)}
				body = append(body, bytes.Repeat([]byte{'n'}, size)...)
				body = append(body, make([]byte, zeros)...)
				e := checkRead(t, packetOf(0x81, 202, body))
				if good := told == size && size >= 1 && size <= 16 && zeros >= 1 && zeros <= 4; (e == api.OK) != good {
					t.Fatal(told, size, zeros, e)
				}
			}
		}
	}
	// Each byte at each place of a name, and of the zeros.
	for size := 1; size <= 16; size++ {
		b := modelWrite(api.Ctrl{Kind: api.KindSDES, Names: []api.Named{{Source: 1, Name: "abcdefghijklmnop"[:size]}}})
		for at := 10; at < len(b); at++ {
			was := b[at]
			for x := range 256 {
				b[at] = byte(x)
				if e := checkRead(t, b); (e == api.OK) != (at < 10+size && x >= 33 && x <= 126 || at >= 10+size && x == 0) {
					t.Fatal(size, at, x, e)
				}
			}
			b[at] = was
		}
	}
	// Other texts than a name, and a name of two bytes a sign.
	for _, body := range []string{"\x00\x00\x00\x01\x02\x01a\x00", "\x00\x00\x00\x01\x00\x00\x00\x00", "\x00\x00\x00\x01\x01\x02\xc3\xa9\x00\x00\x00\x00"} {
		if e := checkRead(t, packetOf(0x81, 202, []byte(body))); e != api.ErrForm {
			t.Errorf("%x: %d", body, e)
		}
	}
}

func TestReadRates(t *testing.T) {
	b := modelWrite(api.Ctrl{Kind: api.KindRemb, Sources: []uint32{5}})
	for exponent := range 64 {
		for _, mantissa := range rateMantissas() {
			x := exponent<<18 + mantissa
			b[17], b[18], b[19] = byte(x>>16), byte(x>>8), byte(x)
			checkRead(t, b)
		}
	}
	for _, c := range []struct {
		x    uint32
		rate uint64
		e    api.Errno
	}{
		{0, 0, api.OK}, {63 << 18, 0, api.OK}, {1, 1, api.OK}, {1<<18 + 1, 2, api.OK}, {2<<18 + 2, 8, api.OK},
		{62<<18 + 1, 1 << 62, api.OK}, {63<<18 + 1, 0, api.ErrForm}, {62<<18 + 2, 0, api.ErrForm}, {61<<18 + 3, 3 << 61, api.OK},
		{45<<18 + 1<<18 - 1, (1<<18 - 1) << 45, api.OK}, {46<<18 + 1<<18 - 1, 0, api.ErrForm}, {46<<18 + 1<<17, 0, api.ErrForm},
		{46<<18 + 1<<17 - 1, (1<<17 - 1) << 46, api.OK}, {63<<18 + 1<<17, 0, api.ErrForm}, {63<<18 + 1<<18 - 1, 0, api.ErrForm},
	} {
		b[17], b[18], b[19] = byte(c.x>>16), byte(c.x>>8), byte(c.x)
		l, e := rtcp.Read(b)
		if e != c.e || e == api.OK && l[0].Rate != c.rate {
			t.Errorf("%x: %v, %d", c.x, l, e)
		}
	}
}

// rateMantissas are those at the edges.
func rateMantissas() []int {
	l := []int{0, 3, 5, 0x15555, 0x2AAAA}
	for bit := range 18 {
		l = append(l, 1<<bit, 1<<(bit+1)-1, 1<<bit|1)
	}
	return l
}

func TestReadCompounds(t *testing.T) {
	good := modelWrite(least(api.KindPli))
	bad := packetOf(0x80, 204, make([]byte, 8))
	for n := 1; n <= 12; n++ {
		b := bytes.Repeat(good, n)
		if e := checkRead(t, b); (e == api.OK) != (n <= 8) {
			t.Error(n, e)
		}
		// One that isn't all there, behind n others.
		for cut := 1; cut < len(good); cut++ {
			want := api.ErrShort
			if n > 8 {
				want = api.ErrForm
			}
			if e := checkRead(t, append(bytes.Clone(b), good[:cut]...)); e != want {
				t.Error(n, cut, e)
			}
		}
		// One that is wrong at each place.
		for at := range n {
			for cut := range len(good) {
				b := slices.Concat(b[:at*len(good)], bad, b[(at+1)*len(good):])
				if e := checkRead(t, append(b, good[:cut]...)); e != api.ErrForm {
					t.Error(n, at, cut, e)
				}
			}
		}
	}
	// Each kind behind each other.
	for _, first := range kinds() {
		for _, second := range kinds() {
			b := modelWrite(sample(first), sample(second))
			if e := checkRead(t, b); e != api.OK {
				t.Error(first, second, e)
			}
			for size := range len(b) {
				checkRead(t, b[:size])
			}
		}
	}
}

func TestReadPacketByPacket(t *testing.T) {
	// What is looked at first is told: the first packet is wrong, the second one isn't all there.
	wrong := packetOf(0x80, 201, nil)
	if e := checkRead(t, append(wrong, 0x80, 201)); e != api.ErrForm {
		t.Error(e)
	}
	// The other way round the first one isn't all there, whatever is behind.
	if e := checkRead(t, []byte{0x00, 199, 0, 9, 0x80, 201, 0, 0}); e != api.ErrShort {
		t.Error(e)
	}
}

func TestReadByChance(t *testing.T) {
	r := rand.New(rand.NewSource(11))
	read := 0
	for range 25000 {
		b := modelWrite(anyCompound(r)...)
		if e := checkRead(t, b); e == api.OK {
			read++
		}
		for range 1 + r.Intn(3) {
			b[r.Intn(len(b))] ^= 1 << r.Intn(8)
		}
		checkRead(t, b)
		checkRead(t, b[:r.Intn(len(b)+1)])
		more := make([]byte, r.Intn(20))
		r.Read(more)
		checkRead(t, append(b, more...))
	}
	if read != 25000 {
		t.Error("not all were read:", read)
	}
	for range 25000 {
		b := make([]byte, 4*r.Intn(60))
		r.Read(b)
		if len(b) > 3 {
			b[0] = b[0]&31 | 0x80
			b[1] = byte(199 + r.Intn(9))
			b[2], b[3] = 0, byte(len(b)/4-1)
		}
		checkRead(t, b)
	}
}

// Rule 5: what is told shares nothing with what was handed in, nor with another answer.
func TestReadIsNewMemory(t *testing.T) {
	var l []api.Ctrl
	for _, kind := range kinds() {
		l = append(l, sample(kind))
	}
	b := append(modelWrite(l...), 1, 2, 3, 4)
	b = b[:len(b)-4]
	first, e := rtcp.Read(b)
	second, f := rtcp.Read(b)
	if e != api.OK || f != api.OK {
		t.Fatal(e, f)
	}
	for i := range first {
		c := &first[i]
		// To write into spare room mustn't turn another list, either.
		clear(append(c.Reports, api.Report{Source: 1})[:len(c.Reports)])
		clear(append(c.Names, api.Named{Source: 1})[:len(c.Names)])
		clear(append(c.Sources, 1)[:len(c.Sources)])
		clear(append(c.Losses, api.Loss{Seq: 1})[:len(c.Losses)])
		clear(append(c.Firs, api.Fir{Source: 1})[:len(c.Firs)])
		clear(c.Reports)
		clear(c.Names)
		clear(c.Sources)
		clear(c.Losses)
		clear(c.Firs)
	}
	if !bytes.Equal(b, modelWrite(l...)) || !bytes.Equal(b[len(b):len(b)+4], []byte{1, 2, 3, 4}) {
		t.Error("what was handed in is changed")
	}
	clear(b)
	if !slices.EqualFunc(second, l, alike) {
		t.Errorf("%+v", second)
	}
}

func TestReadKeepsNothing(t *testing.T) {
	b := modelWrite(sample(api.KindSR), sample(api.KindRemb))
	l, _ := rtcp.Read(b)
	rtcp.Read(nil)
	rtcp.Read(modelWrite(sample(api.KindSDES))[:9])
	rtcp.Read(packetOf(0x80, 204, nil))
	rtcp.Write([]api.Ctrl{sample(api.KindFir)})
	again, e := rtcp.Read(b)
	if e != api.OK || !reflect.DeepEqual(l, again) {
		t.Error(again, e)
	}
}

func TestExampleOfRead(t *testing.T) {
	b := append([]byte{0x81, 0xC9, 0, 7}, make([]byte, 28)...)
	l, e := rtcp.Read(b)
	if e != api.OK || len(l) != 1 || !alike(l[0], api.Ctrl{Kind: api.KindRR, Reports: make([]api.Report, 1)}) {
		t.Error(l, e)
	}
}

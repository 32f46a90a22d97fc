package rtp_test

import (
	"bytes"
	"encoding/binary"
	"math/rand"
	"reflect"
	"slices"
	"testing"

	"tenaille/api"
	"tenaille/rtp"
)

// The model goes by the chapter's words, with places counted from the beginning, and without a reader.

// modelRead tells the packet, how many bytes are ahead of its payload, and an error.
func modelRead(b []byte) (api.Rtp, int, api.Errno) {
	if len(b) > 1200 {
		return api.Rtp{}, 0, api.ErrForm
	}
	if len(b) < 12 {
		return api.Rtp{}, 0, api.ErrShort
	}
	if b[0]&0xC0 != 0x80 {
		return api.Rtp{}, 0, api.ErrForm
	}
	others := int(b[0] & 0x0F)
	head := 12 + 4*others
	if len(b) < head {
		return api.Rtp{}, 0, api.ErrShort
	}
	p := api.Rtp{
		Marker: b[1] >= 128,
		Type:   b[1] % 128,
		Seq:    binary.BigEndian.Uint16(b[2:]),
		Stamp:  binary.BigEndian.Uint32(b[4:]),
		Source: binary.BigEndian.Uint32(b[8:]),
	}
	for i := range others {
		p.Others = append(p.Others, binary.BigEndian.Uint32(b[12+4*i:]))
	}
	if b[0]&0x10 != 0 {
		if len(b) < head+4 {
			return api.Rtp{}, 0, api.ErrShort
		}
		words := int(binary.BigEndian.Uint16(b[head+2:]))
		if len(b) < head+4+4*words {
			return api.Rtp{}, 0, api.ErrShort
		}
		if words > 255 {
			return api.Rtp{}, 0, api.ErrForm
		}
		p.Ext = true
		p.Profile = binary.BigEndian.Uint16(b[head:])
		p.Extra = bytes.Clone(b[head+4 : head+4+4*words])
		head += 4 + 4*words
	}
	end := len(b)
	if b[0]&0x20 != 0 {
		if end == head || b[end-1] == 0 || int(b[end-1]) > end-head {
			return api.Rtp{}, 0, api.ErrForm
		}
		p.Pad = b[end-1]
		end -= int(p.Pad)
	}
	p.Payload = bytes.Clone(b[head:end])
	return p, head, api.OK
}

// modelWrite is the bytes of a packet that may be.
func modelWrite(p api.Rtp) []byte {
	b := make([]byte, 12)
	b[0] = 0x80 + byte(len(p.Others))
	if p.Pad > 0 {
		b[0] += 0x20
	}
	if p.Ext {
		b[0] += 0x10
	}
	b[1] = p.Type
	if p.Marker {
		b[1] += 128
	}
	binary.BigEndian.PutUint16(b[2:], p.Seq)
	binary.BigEndian.PutUint32(b[4:], p.Stamp)
	binary.BigEndian.PutUint32(b[8:], p.Source)
	for _, s := range p.Others {
		b = binary.BigEndian.AppendUint32(b, s)
	}
	if p.Ext {
		b = binary.BigEndian.AppendUint16(b, p.Profile)
		b = binary.BigEndian.AppendUint16(b, uint16(len(p.Extra)/4))
		b = append(b, p.Extra...)
	}
	b = append(b, p.Payload...)
	for i := int(p.Pad); i > 0; i-- {
		if i == 1 {
			b = append(b, p.Pad)
		} else {
			b = append(b, 0)
		}
	}
	return b
}

// alike tells whether two packets are one; lists that are nil are as empty ones.
func alike(p, q api.Rtp) bool {
	return p.Marker == q.Marker && p.Type == q.Type && p.Seq == q.Seq && p.Stamp == q.Stamp && p.Source == q.Source &&
		slices.Equal(p.Others, q.Others) && p.Ext == q.Ext && p.Profile == q.Profile && bytes.Equal(p.Extra, q.Extra) &&
		bytes.Equal(p.Payload, q.Payload) && p.Pad == q.Pad
}

// isZero tells whether a packet is the zero one; its lists may be empty ones.
func isZero(p api.Rtp) bool {
	return alike(p, api.Rtp{})
}

// checkRead holds Read and Head against the model, and looks whether b is what it was.
func checkRead(t *testing.T, b []byte) api.Errno {
	t.Helper()
	was := bytes.Clone(b)
	want, head, code := modelRead(b)
	p, e := rtp.Read(b)
	if e != code || !alike(p, want) {
		t.Fatalf("Read(%x): %+v, %d, asked for: %+v, %d", was, p, e, want, code)
	}
	if e != api.OK && !isZero(p) {
		t.Fatalf("Read(%x): beside the error %d: %+v", was, e, p)
	}
	n, ok := rtp.Head(b)
	if n != head || ok != (code == api.OK) {
		t.Fatalf("Head(%x): %d, %t, asked for: %d, error %d", was, n, ok, head, code)
	}
	if !bytes.Equal(b, was) {
		t.Fatalf("%x has become %x", was, b)
	}
	return e
}

// header is the twelve bytes with a first byte, and as many zeros behind it as make it so long.
func header(first byte, size int) []byte {
	b := make([]byte, size)
	if size > 0 {
		b[0] = first
	}
	return b
}

// full is a packet that has all that one may have.
func full() api.Rtp {
	return api.Rtp{
		Marker: true, Type: 111, Seq: 0xF0F1, Stamp: 0x80818283, Source: 0xC0C1C2C3,
		Others: []uint32{0x01020304, 0xFFFFFFFF, 0}, Ext: true, Profile: 0xBEDE,
		Extra: []byte{1, 2, 3, 4, 5, 6, 7, 8}, Payload: []byte("a payload"), Pad: 5,
	}
}

// anyPacket is one by chance that may be.
func anyPacket(r *rand.Rand) api.Rtp {
	p := api.Rtp{
		Marker: r.Intn(2) == 0, Type: byte(r.Intn(128)), Seq: uint16(r.Uint32()), Stamp: r.Uint32(), Source: r.Uint32(),
	}
	for range r.Intn(16) {
		p.Others = append(p.Others, r.Uint32())
	}
	if r.Intn(2) == 0 {
		p.Ext, p.Profile = true, uint16(r.Uint32())
		p.Extra = anyBytes(r, 4*r.Intn(12))
		if r.Intn(8) == 0 {
			p.Extra = anyBytes(r, 4*r.Intn(256))
		}
	}
	room := 1200 - len(modelWrite(p))
	if r.Intn(2) == 0 {
		p.Pad = byte(r.Intn(min(room, 255) + 1))
	}
	room -= int(p.Pad)
	switch r.Intn(4) {
	case 0:
		p.Payload = anyBytes(r, room)
	case 1:
		p.Payload = anyBytes(r, r.Intn(room+1))
	case 2:
		p.Payload = anyBytes(r, r.Intn(min(room, 20)+1))
	}
	return p
}

func anyBytes(r *rand.Rand, n int) []byte {
	b := make([]byte, n)
	r.Read(b)
	return b
}

// P10.1: Read.

func TestReadEachBitOfTheHeader(t *testing.T) {
	for bit := range 12 * 8 {
		b := header(0x80, 40)
		b[bit/8] ^= 0x80 >> (bit % 8)
		checkRead(t, b)
	}
	p, e := rtp.Read([]byte{0x80, 0xE0, 1, 2, 3, 4, 5, 6, 7, 8, 9, 10, 'x'})
	want := api.Rtp{Marker: true, Type: 96, Seq: 0x0102, Stamp: 0x03040506, Source: 0x0708090A, Payload: []byte("x")}
	if e != api.OK || !alike(p, want) {
		t.Error(p, e)
	}
}

func TestReadAllFirstBytesAtAllLengths(t *testing.T) {
	for first := range 256 {
		for size := range 90 {
			b := header(byte(first), size)
			checkRead(t, b)
			for i := range b {
				b[i] = byte(i + 1)
			}
			if size > 0 {
				b[0] = byte(first)
			}
			checkRead(t, b)
			// An extension of one word behind the other sources.
			if at := 12 + 4*(first&15) + 2; at+1 < size {
				b[at], b[at+1] = 0, 1
				checkRead(t, b)
			}
		}
	}
}

func TestReadTooLong(t *testing.T) {
	for size := 1190; size < 1300; size++ {
		e := checkRead(t, header(0x80, size))
		if (e == api.ErrForm) != (size > 1200) {
			t.Error(size, e)
		}
	}
	for _, size := range []int{1201, 2400, 65535, 65536, 1 << 20} {
		// Whatever else is wrong, it is too long ahead of all.
		for _, first := range []byte{0, 0x80, 0x8F, 0x90, 0xA0, 0xFF} {
			if e := checkRead(t, header(first, size)); e != api.ErrForm {
				t.Error(size, first, e)
			}
		}
	}
}

func TestReadTooShort(t *testing.T) {
	if e := checkRead(t, nil); e != api.ErrShort {
		t.Error(e)
	}
	for size := range 12 {
		// Fewer than 12 bytes are told ahead of what the first two bits are.
		for first := range 256 {
			if e := checkRead(t, header(byte(first), size)); e != api.ErrShort {
				t.Error(size, first, e)
			}
		}
	}
}

func TestReadFirstBits(t *testing.T) {
	for _, two := range []byte{0, 0x40, 0xC0} {
		// It is told ahead of sources, extension and padding that are lacking.
		for low := range byte(64) {
			for _, size := range []int{12, 13, 100, 1200} {
				if e := checkRead(t, header(two|low, size)); e != api.ErrForm {
					t.Error(two|low, size, e)
				}
			}
		}
	}
}

func TestReadOthersLacking(t *testing.T) {
	for others := range 16 {
		need := 12 + 4*others
		for size := 12; size < 80; size++ {
			for _, flags := range []byte{0x80, 0xA0, 0x90, 0xB0} {
				e := checkRead(t, header(flags|byte(others), size))
				if size < need && e != api.ErrShort {
					t.Error(others, size, flags, e)
				}
			}
		}
	}
}

// extended is a packet with an extension that says it has so many words, and with so many bytes behind that.
func extended(flags byte, words, behind int) []byte {
	b := header(flags|0x90, 16+behind)
	binary.BigEndian.PutUint16(b[12:], 0xBEDE)
	binary.BigEndian.PutUint16(b[14:], uint16(words))
	for i := 16; i < len(b); i++ {
		b[i] = byte(i)
	}
	return b
}

func TestReadExtensions(t *testing.T) {
	for words := range 256 {
		for _, more := range []int{-4, -1, 0, 1, 3, 4, 100} {
			if 4*words+more < 0 {
				continue
			}
			e := checkRead(t, extended(0, words, 4*words+more))
			if (e == api.OK) != (more >= 0) || (e == api.ErrShort) != (more < 0) {
				t.Error(words, more, e)
			}
		}
	}
	p, e := rtp.Read(extended(0, 0, 3))
	if e != api.OK || !p.Ext || p.Profile != 0xBEDE || len(p.Extra) != 0 || len(p.Payload) != 3 {
		t.Error(p, e)
	}
}

func TestReadExtensionsTooLong(t *testing.T) {
	for words := 250; words < 300; words++ {
		for _, behind := range []int{0, 1000, 1016, 1019, 1020, 1023, 1024, 1028, 1100, 1184} {
			for _, flags := range []byte{0, 0x20} {
				e := checkRead(t, extended(flags, words, behind))
				// What isn't all there is told ahead of what is too much, and that ahead of the padding.
				if behind < 4*words && e != api.ErrShort {
					t.Error(words, behind, e)
				}
				if behind >= 4*words && words > 255 && e != api.ErrForm {
					t.Error(words, behind, e)
				}
			}
		}
	}
	for _, words := range []int{1 << 10, 1 << 14, 1<<14 + 1, 1 << 15, 1<<16 - 1} {
		if e := checkRead(t, extended(0, words, 1184)); e != api.ErrShort {
			t.Error(words, e)
		}
	}
}

func TestReadPadding(t *testing.T) {
	for _, ahead := range []api.Rtp{{}, {Others: []uint32{1, 2}}, {Ext: true, Extra: []byte{9, 9, 9, 9}}, {Others: []uint32{3}, Ext: true}} {
		for behind := range 262 {
			for last := range 256 {
				if behind == 0 && last > 0 {
					break
				}
				p := ahead
				p.Payload = bytes.Repeat([]byte{7}, behind)
				b := modelWrite(p)
				b[0] |= 0x20
				if behind > 0 {
					b[len(b)-1] = byte(last)
				}
				e := checkRead(t, b)
				if may := last > 0 && last <= behind; may != (e == api.OK) || !may != (e == api.ErrForm) {
					t.Fatal(behind, last, e)
				}
			}
		}
	}
}

func TestReadPaddingLeavesTheHeaderAlone(t *testing.T) {
	// The header's last byte is no padding, though it could pass for some.
	b := header(0xA0, 12)
	b[11] = 1
	if e := checkRead(t, b); e != api.ErrForm {
		t.Error(e)
	}
	b = append(b, 2)
	if e := checkRead(t, b); e != api.ErrForm {
		t.Error(e)
	}
	// Padding is read whatever its bytes are but the last one.
	p, e := rtp.Read([]byte{0xA0, 0, 0, 0, 0, 0, 0, 0, 0, 0, 0, 0, 'p', 9, 8, 3})
	if e != api.OK || string(p.Payload) != "p" || p.Pad != 3 {
		t.Error(p, e)
	}
	// Without the bit the last byte is the payload's.
	p, e = rtp.Read([]byte{0x80, 0, 0, 0, 0, 0, 0, 0, 0, 0, 0, 0, 'p', 1})
	if e != api.OK || string(p.Payload) != "p\x01" || p.Pad != 0 {
		t.Error(p, e)
	}
}

func TestReadByChance(t *testing.T) {
	r := rand.New(rand.NewSource(10))
	for range 60000 {
		b := anyBytes(r, r.Intn(100))
		if len(b) > 0 && r.Intn(4) > 0 {
			b[0] = b[0]&0x3F | 0x80
		}
		checkRead(t, b)
		b = modelWrite(anyPacket(r))
		if r.Intn(2) == 0 {
			b = b[:r.Intn(len(b)+1)]
		}
		for range r.Intn(3) {
			if len(b) > 0 {
				b[r.Intn(min(len(b), 90))] = byte(r.Uint32())
			}
		}
		checkRead(t, b)
	}
}

func TestReadSlicesAreItsOwn(t *testing.T) {
	b := append(modelWrite(full()), "spare"...)
	b = b[:len(b)-5]
	p, e := rtp.Read(b)
	q, _ := rtp.Read(b)
	if e != api.OK || !alike(p, full()) {
		t.Fatal(p, e)
	}
	was := bytes.Clone(b)
	for i := range b {
		b[i] ^= 0xFF
	}
	if !alike(p, full()) {
		t.Error("a packet that was told hangs on the bytes handed in")
	}
	copy(b, was)
	scribble(&p)
	if !bytes.Equal(b, was) || string(b[:len(b)+5][len(b):]) != "spare" {
		t.Error("the bytes handed in hang on a packet that was told")
	}
	if !alike(q, full()) {
		t.Error("two answers share memory")
	}
}

// scribble writes to all of a packet's lists, and behind their ends.
func scribble(p *api.Rtp) {
	for i := range p.Others {
		p.Others[i]++
	}
	for _, b := range [][]byte{p.Extra, p.Payload} {
		b = b[:cap(b)]
		for i := range b {
			b[i]++
		}
	}
	p.Others = append(p.Others, 1)
	p.Extra = append(p.Extra, 1)
	p.Payload = append(p.Payload, 1)
}

func TestReadListsDoNotShareTheirRoom(t *testing.T) {
	p, _ := rtp.Read(modelWrite(full()))
	extra := append(p.Extra, 0xEE, 0xEE, 0xEE)
	if string(p.Payload) != "a payload" || len(extra) != 11 {
		t.Error("the extension's room is the payload's")
	}
}

// P10.2: Write.

// checkWrite holds Write against the model, and looks whether the packet is what it was.
func checkWrite(t *testing.T, p api.Rtp) []byte {
	t.Helper()
	was := copyOf(p)
	b, e := rtp.Write(p)
	if e != api.OK || !bytes.Equal(b, modelWrite(p)) {
		t.Fatalf("Write(%+v): %x, %d, asked for: %x", p, b, e, modelWrite(p))
	}
	if !alike(p, was) {
		t.Fatalf("%+v has become %+v", was, p)
	}
	return b
}

// checkRefused looks whether Write refuses a packet.
func checkRefused(t *testing.T, p api.Rtp) {
	t.Helper()
	if b, e := rtp.Write(p); len(b) != 0 || e != api.ErrArg {
		t.Errorf("type %d, %d others, extension %t of %d, payload of %d, padding %d: %d bytes, %d",
			p.Type, len(p.Others), p.Ext, len(p.Extra), len(p.Payload), p.Pad, len(b), e)
	}
}

func copyOf(p api.Rtp) api.Rtp {
	p.Others, p.Extra, p.Payload = slices.Clone(p.Others), bytes.Clone(p.Extra), bytes.Clone(p.Payload)
	return p
}

func TestWriteZero(t *testing.T) {
	b := checkWrite(t, api.Rtp{})
	if !bytes.Equal(b, []byte{0x80, 0, 0, 0, 0, 0, 0, 0, 0, 0, 0, 0}) {
		t.Errorf("%x", b)
	}
}

func TestWriteEmptyIsNil(t *testing.T) {
	p := api.Rtp{Others: []uint32{}, Extra: []byte{}, Payload: []byte{}}
	if b := checkWrite(t, p); len(b) != 12 {
		t.Errorf("%x", b)
	}
	p.Ext = true
	if b := checkWrite(t, p); len(b) != 16 || b[0] != 0x90 {
		t.Errorf("%x", b)
	}
}

func TestWriteTypes(t *testing.T) {
	for kind := range 256 {
		for _, marker := range []bool{false, true} {
			p := api.Rtp{Type: byte(kind), Marker: marker}
			if kind > 127 {
				checkRefused(t, p)
			} else {
				checkWrite(t, p)
			}
		}
	}
}

func TestWriteOthers(t *testing.T) {
	for n := range 16 {
		p := api.Rtp{Payload: []byte("behind")}
		for i := range n {
			p.Others = append(p.Others, 0x01020304*uint32(i+1))
		}
		checkWrite(t, p)
	}
	for _, n := range []int{16, 17, 31, 32, 256, 272, 1 << 16} {
		checkRefused(t, api.Rtp{Others: make([]uint32, n)})
	}
}

func TestWriteExtensions(t *testing.T) {
	for n := range 1100 {
		p := api.Rtp{Ext: true, Profile: 0xABCD, Extra: bytes.Repeat([]byte{5}, n), Payload: []byte("xy"), Pad: 1}
		if n%4 == 0 && n <= 1020 {
			checkWrite(t, p)
		} else {
			checkRefused(t, p)
		}
		p.Ext, p.Profile = false, 0
		if n > 0 {
			checkRefused(t, p)
		}
	}
	checkRefused(t, api.Rtp{Ext: true, Extra: make([]byte, 1<<18)})
	checkRefused(t, api.Rtp{Ext: true, Extra: make([]byte, 1<<18+4)})
}

func TestWriteProfileWithoutExtension(t *testing.T) {
	for _, profile := range []uint16{1, 0x100, 0xBEDE, 0x8000, 0xFFFF} {
		checkRefused(t, api.Rtp{Profile: profile})
		checkRefused(t, api.Rtp{Profile: profile, Extra: make([]byte, 4)})
		checkWrite(t, api.Rtp{Ext: true, Profile: profile})
	}
}

func TestWriteTooLong(t *testing.T) {
	for _, p := range []api.Rtp{
		{}, {Pad: 1}, {Pad: 255}, {Others: make([]uint32, 15)}, {Ext: true}, {Ext: true, Extra: make([]byte, 1020)},
		{Others: make([]uint32, 15), Ext: true, Extra: make([]byte, 1020)}, {Others: make([]uint32, 1), Ext: true, Extra: make([]byte, 8), Pad: 200},
	} {
		room := 1200 - len(modelWrite(p))
		for more := -3; more < 4; more++ {
			p.Payload = bytes.Repeat([]byte{1}, room+more)
			if more > 0 {
				checkRefused(t, p)
			} else if b := checkWrite(t, p); len(b) != 1200+more {
				t.Error(len(b), more)
			}
		}
	}
	// Padding alone may be what is too much.
	p := api.Rtp{Payload: make([]byte, 1000)}
	for pad := range 256 {
		p.Pad = byte(pad)
		if pad > 188 {
			checkRefused(t, p)
		} else {
			checkWrite(t, p)
		}
	}
	// And so may the extension.
	checkRefused(t, api.Rtp{Ext: true, Extra: make([]byte, 1020), Payload: make([]byte, 165)})
	checkRefused(t, api.Rtp{Payload: make([]byte, 1<<20)})
	// The header, all others and the longest extension leave 104 bytes.
	checkRefused(t, api.Rtp{Others: make([]uint32, 15), Ext: true, Extra: make([]byte, 1020), Pad: 105})
}

func TestWritePaddingIsZeros(t *testing.T) {
	for pad := range 256 {
		for _, n := range []int{0, 1, 5} {
			p := api.Rtp{Payload: bytes.Repeat([]byte{0xAA}, n), Pad: byte(pad)}
			b := checkWrite(t, p)
			if len(b) != 12+n+pad || (b[0]&0x20 != 0) != (pad > 0) {
				t.Fatalf("%x", b)
			}
			for i := 12 + n; i < len(b)-1; i++ {
				if b[i] != 0 {
					t.Fatalf("%x", b)
				}
			}
			if pad > 0 && b[len(b)-1] != byte(pad) {
				t.Fatalf("%x", b)
			}
		}
	}
}

func TestWriteByChance(t *testing.T) {
	r := rand.New(rand.NewSource(20))
	for range 20000 {
		checkWrite(t, anyPacket(r))
	}
}

func TestWriteSharesNothing(t *testing.T) {
	p := full()
	p.Payload = append(make([]byte, 0, 100), p.Payload...)
	p.Extra = append(make([]byte, 0, 100), p.Extra...)
	was := copyOf(p)
	first, second := checkWrite(t, p), checkWrite(t, p)
	for i := range first[:cap(first)] {
		first[:cap(first)][i] = 0x55
	}
	if !alike(p, was) || !bytes.Equal(second, modelWrite(was)) {
		t.Error("an answer shares memory")
	}
	for _, b := range [][]byte{p.Payload, p.Extra} {
		for _, x := range b[len(b):cap(b)] {
			if x != 0 {
				t.Fatal("spare room of what was handed in is written to")
			}
		}
	}
	scribble(&p)
	if !bytes.Equal(second, modelWrite(was)) {
		t.Error("an answer hangs on what was handed in")
	}
}

// P10.3: Head.

func TestHeadOfAllHeaders(t *testing.T) {
	for others := range 16 {
		for words := -1; words < 256; words++ {
			p := api.Rtp{Others: make([]uint32, others), Payload: []byte("abc"), Pad: 2}
			want := 12 + 4*others
			if words >= 0 {
				p.Ext, p.Extra = true, make([]byte, 4*words)
				want += 4 + 4*words
			}
			n, ok := rtp.Head(modelWrite(p))
			if n != want || !ok {
				t.Fatal(others, words, n, ok)
			}
		}
	}
}

func TestHeadLooksAtAll(t *testing.T) {
	// What is wrong behind the header is refused, too.
	good := modelWrite(api.Rtp{Payload: []byte{1, 2, 3}, Pad: 2})
	if n, ok := rtp.Head(good); n != 12 || !ok {
		t.Error(n, ok)
	}
	for _, last := range []byte{0, 6, 255} {
		bad := bytes.Clone(good)
		bad[len(bad)-1] = last
		if n, ok := rtp.Head(bad); n != 0 || ok {
			t.Error(last, n, ok)
		}
	}
	for _, b := range [][]byte{nil, {}, {0x80}, header(0x80, 11), header(0x80, 1201), header(0x81, 15), header(0x90, 15), extended(0, 256, 1024)} {
		if n, ok := rtp.Head(b); n != 0 || ok {
			t.Error(len(b), n, ok)
		}
	}
}

// P10.4: there and back.

func TestWhatIsWrittenIsRead(t *testing.T) {
	r := rand.New(rand.NewSource(30))
	packets := []api.Rtp{{}, full(), {Ext: true}, {Pad: 255}, {Others: []uint32{0}}, {Type: 127, Seq: 65535, Stamp: 1<<32 - 1, Source: 1<<32 - 1}}
	for range 20000 {
		packets = append(packets, anyPacket(r))
	}
	for _, p := range packets {
		b, e := rtp.Write(p)
		if e != api.OK {
			t.Fatal(p, e)
		}
		q, e := rtp.Read(b)
		if e != api.OK || !alike(p, q) {
			t.Fatalf("%+v is read as %+v, %d", p, q, e)
		}
		if n, ok := rtp.Head(b); !ok || !bytes.Equal(b[n:n+len(p.Payload)], p.Payload) {
			t.Fatal(n, ok)
		}
	}
}

func TestWhatIsReadIsWrittenAgain(t *testing.T) {
	r := rand.New(rand.NewSource(40))
	read := 0
	for range 60000 {
		b := anyBytes(r, r.Intn(200))
		if len(b) > 3 {
			b[0] = b[0]&0x33 | 0x80
			b[len(b)-1] %= 40
		}
		if r.Intn(2) == 0 {
			b = modelWrite(anyPacket(r))
		}
		p, e := rtp.Read(b)
		if e != api.OK {
			continue
		}
		read++
		again, e := rtp.Write(p)
		if e != api.OK {
			t.Fatalf("%x is read, but not written: %d", b, e)
		}
		// The padding's bytes but the last one are zeros.
		for i := len(b) - int(p.Pad); i < len(b)-1; i++ {
			b[i] = 0
		}
		if !bytes.Equal(again, b) {
			t.Fatalf("%x is written as %x", b, again)
		}
	}
	if read < 30000 {
		t.Error("few were read:", read)
	}
}

// Rule 6: the same is answered to the same, whatever was asked between.
func TestNothingIsKept(t *testing.T) {
	b := modelWrite(full())
	p, _ := rtp.Read(b)
	rtp.Read(nil)
	rtp.Read(header(0xA0, 12))
	rtp.Write(api.Rtp{Type: 200})
	q, e := rtp.Read(b)
	if e != api.OK || !reflect.DeepEqual(p, q) {
		t.Error(q, e)
	}
}

func TestExamples(t *testing.T) {
	b := []byte{0x80, 0x60, 0, 1, 0, 0, 0, 0, 0, 0, 0, 0}
	p, e := rtp.Read(b)
	if e != api.OK || p.Type != 96 || p.Seq != 1 || !alike(p, api.Rtp{Type: 96, Seq: 1}) {
		t.Error(p, e)
	}
	b[0] = 0
	if p, e := rtp.Read(b); e != api.ErrForm || !isZero(p) {
		t.Error(p, e)
	}
}

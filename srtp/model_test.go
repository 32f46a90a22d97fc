package srtp_test

import (
	"bytes"
	"crypto/aes"
	"crypto/cipher"
	"crypto/hmac"
	"crypto/sha1"
	"encoding/binary"
	"math/rand"
	"slices"
	"testing"

	"tenaille/api"
	"tenaille/rtp"
	"tenaille/srtp"
)

// The model goes by the chapter's words, with another cipher and another tag than the program's, and keeps every index that was there.

// modelStream is what a counter's stream makes of bytes.
func modelStream(key, counter, b []byte) []byte {
	block, err := aes.NewCipher(key)
	if err != nil {
		panic(err)
	}
	out := make([]byte, len(b))
	cipher.NewCTR(block, counter).XORKeyStream(out, b)
	return out
}

// modelKeys are those of media: to cipher, to tag, the salt.
func modelKeys(m api.Master) [3][]byte {
	var keys [3][]byte
	for label, size := range []int{16, 20, 14} {
		counter := append(bytes.Clone(m.Salt[:]), 0, 0)
		counter[7] ^= byte(label)
		keys[label] = modelStream(m.Key[:], counter, make([]byte, size))
	}
	return keys
}

// modelTurn is a packet's bytes, those behind so many ones ciphered, or deciphered.
func modelTurn(m api.Master, b []byte, head int, index int64) []byte {
	keys := modelKeys(m)
	counter := append(bytes.Clone(keys[2]), 0, 0)
	for i := range 4 {
		counter[4+i] ^= b[8+i]
	}
	for i := range 6 {
		counter[8+i] ^= byte(index >> (40 - 8*i))
	}
	return append(bytes.Clone(b[:head]), modelStream(keys[0], counter, b[head:])...)
}

// modelTag is the tag of ciphered bytes.
func modelTag(m api.Master, b []byte, index int64) []byte {
	h := hmac.New(sha1.New, modelKeys(m)[1])
	h.Write(b)
	h.Write(binary.BigEndian.AppendUint32(nil, uint32(index>>16)))
	return h.Sum(nil)[:10]
}

// modelHead is how many bytes a header has by its bits; what lacks counts as zeros.
func modelHead(b []byte) int {
	b = append(bytes.Clone(b), make([]byte, 80)...)
	size := 12 + 4*int(b[0]%16)
	if b[0]&0x10 != 0 {
		size += 4 + 4*(int(b[size+2])*256+int(b[size+3]))
	}
	return size
}

// modelSeal is the ciphered packet of a packet's bytes, which needn't be such behind the header.
func modelSeal(m api.Master, plain []byte, index int64) []byte {
	b := modelTurn(m, plain, modelHead(plain), index)
	return append(b, modelTag(m, b, index)...)
}

// modelPeek is a ciphered packet's source and sequence number.
func modelPeek(b []byte) (uint32, uint16, api.Errno) {
	if len(b) > 1200 {
		return 0, 0, api.ErrForm
	}
	if len(b) < 22 {
		return 0, 0, api.ErrShort
	}
	if b[0]/64 != 2 {
		return 0, 0, api.ErrForm
	}
	if modelHead(b[:len(b)-10])+10 > len(b) {
		return 0, 0, api.ErrShort
	}
	return binary.BigEndian.Uint32(b[8:]), binary.BigEndian.Uint16(b[2:]), api.OK
}

// modelWay has of each source all the indices that were there.
type modelWay struct {
	master      api.Master
	limit, used int
	there       map[uint32][]int64
}

func newModel(m api.Master, limit int) *modelWay {
	return &modelWay{master: m, limit: limit, there: map[uint32][]int64{}}
}

func (w *modelWay) high(source uint32) int64 {
	if len(w.there[source]) == 0 {
		return -1
	}
	return slices.Max(w.there[source])
}

// likely looks at each index near the highest one.
func (w *modelWay) likely(source uint32, seq uint16) int64 {
	h := w.high(source)
	if h < 0 {
		return int64(seq)
	}
	for i := h - 32767; i <= h+32768; i++ {
		if uint16(i) == seq && i >= 0 {
			return i
		}
		if uint16(i) == seq {
			return i + 65536
		}
	}
	panic("no index")
}

func (w *modelWay) seal(p api.Rtp, index int64) ([]byte, api.Errno) {
	if w.used >= w.limit {
		return nil, api.ErrKey
	}
	plain, e := rtp.Write(p)
	if index < 0 || index > 1<<48-1 || index%65536 != int64(p.Seq) || e != api.OK || len(plain) > 1190 {
		return nil, api.ErrArg
	}
	w.used++
	return modelSeal(w.master, plain, index), api.OK
}

func (w *modelWay) open(b []byte) (api.Rtp, int64, api.Errno) {
	source, seq, e := modelPeek(b)
	if e != api.OK {
		return api.Rtp{}, 0, e
	}
	if w.used >= w.limit {
		return api.Rtp{}, 0, api.ErrKey
	}
	if len(w.there[source]) == 0 && len(w.there) == 8 {
		return api.Rtp{}, 0, api.ErrFull
	}
	index, h := w.likely(source, seq), w.high(source)
	if index >= 1<<48 {
		return api.Rtp{}, 0, api.ErrForm
	}
	if slices.Contains(w.there[source], index) || index <= h-64 {
		return api.Rtp{}, 0, api.ErrOld
	}
	end := len(b) - 10
	if !bytes.Equal(b[end:], modelTag(w.master, b[:end], index)) {
		return api.Rtp{}, 0, api.ErrAuth
	}
	w.used++
	w.there[source] = append(w.there[source], index)
	p, e := rtp.Read(modelTurn(w.master, b[:end], modelHead(b[:end]), index))
	if e != api.OK {
		return api.Rtp{}, 0, api.ErrForm
	}
	return p, index, api.OK
}

// pair is a way and its model, to which the same is done.
type pair struct {
	t     *testing.T
	way   *srtp.Way
	model *modelWay
}

func newPair(t *testing.T, m api.Master, limit int) pair {
	return pair{t: t, way: srtp.New(m, limit), model: newModel(m, limit)}
}

// seal holds Seal against the model, and what is kept afterwards.
func (c pair) seal(p api.Rtp, index int64) ([]byte, api.Errno) {
	c.t.Helper()
	want, code := c.model.seal(p, index)
	b, e := c.way.Seal(p, index)
	if e != code || !bytes.Equal(b, want) {
		c.t.Fatalf("Seal(%+v, %d): %x, %d, asked for: %x, %d", p, index, b, e, want, code)
	}
	c.kept(p.Source)
	return b, e
}

// open holds Open against the model, and what is kept afterwards, and looks whether b is what it was.
func (c pair) open(b []byte) api.Errno {
	c.t.Helper()
	was := bytes.Clone(b)
	want, i, code := c.model.open(b)
	p, index, e := c.way.Open(b)
	if e != code || index != i || !alike(p, want) {
		c.t.Fatalf("Open(%x): %+v, %d, %d, asked for: %+v, %d, %d", was, p, index, e, want, i, code)
	}
	if !bytes.Equal(b, was) {
		c.t.Fatalf("%x has become %x", was, b)
	}
	source, _, _ := modelPeek(b)
	c.kept(source)
	return e
}

// kept holds what the way tells of itself against the model.
func (c pair) kept(sources ...uint32) {
	c.t.Helper()
	if c.way.Used() != c.model.used || c.way.Sources() != len(c.model.there) {
		c.t.Fatalf("used %d, sources %d, asked for: %d, %d", c.way.Used(), c.way.Sources(), c.model.used, len(c.model.there))
	}
	for source := range c.model.there {
		sources = append(sources, source)
	}
	for _, source := range sources {
		if h := c.way.High(source); h != c.model.high(source) {
			c.t.Fatalf("the highest index of %d: %d, asked for: %d", source, h, c.model.high(source))
		}
	}
}

// alike tells whether two packets are one; lists that are nil are as empty ones.
func alike(p, q api.Rtp) bool {
	return p.Marker == q.Marker && p.Type == q.Type && p.Seq == q.Seq && p.Stamp == q.Stamp && p.Source == q.Source &&
		slices.Equal(p.Others, q.Others) && p.Ext == q.Ext && p.Profile == q.Profile && bytes.Equal(p.Extra, q.Extra) &&
		bytes.Equal(p.Payload, q.Payload) && p.Pad == q.Pad
}

// master is one whose bytes are all unlike.
func master() api.Master {
	var m api.Master
	for i := range m.Key {
		m.Key[i] = byte(0xE1 + 7*i)
	}
	for i := range m.Salt {
		m.Salt[i] = byte(0x0E + 11*i)
	}
	return m
}

// turnedMaster is the master with one of its 240 bits turned.
func turnedMaster(bit int) api.Master {
	m := master()
	if bit < 128 {
		m.Key[bit/8] ^= 1 << (bit % 8)
	} else {
		m.Salt[bit/8-16] ^= 1 << (bit % 8)
	}
	return m
}

// packet is one of a source, with an index's number and a payload of its own.
func packet(source uint32, index int64) api.Rtp {
	return api.Rtp{Type: 96, Seq: uint16(index), Stamp: uint32(90 * index), Source: source, Payload: binary.BigEndian.AppendUint64([]byte("of "), uint64(index))}
}

// full is a packet that has all that one may have.
func full(index int64) api.Rtp {
	p := packet(0xC0C1C2C3, index)
	p.Marker, p.Others, p.Pad = true, []uint32{0x01020304, 0xFFFFFFFF, 0}, 5
	p.Ext, p.Profile, p.Extra = true, 0xBEDE, []byte{1, 2, 3, 4, 5, 6, 7, 8}
	return p
}

// anyPacket is one by chance that may be, and has room for its tag.
func anyPacket(r *rand.Rand, source uint32, index int64) api.Rtp {
	p := packet(source, index)
	p.Marker, p.Type, p.Stamp = r.Intn(2) == 0, byte(r.Intn(128)), r.Uint32()
	for range r.Intn(16) * r.Intn(2) {
		p.Others = append(p.Others, r.Uint32())
	}
	if r.Intn(2) == 0 {
		p.Ext, p.Profile = true, uint16(r.Uint32())
		p.Extra = anyBytes(r, 4*r.Intn(20))
	}
	if r.Intn(2) == 0 {
		p.Pad = byte(r.Intn(256))
	}
	p.Payload = anyBytes(r, r.Intn(200))
	if r.Intn(8) == 0 {
		p.Payload = anyBytes(r, r.Intn(1190-12-60-84-255+1))
	}
	return p
}

func anyBytes(r *rand.Rand, n int) []byte {
	b := make([]byte, n)
	r.Read(b)
	return b
}

func anyMaster(r *rand.Rand) api.Master {
	var m api.Master
	r.Read(m.Key[:])
	r.Read(m.Salt[:])
	return m
}

// sealed is the ciphered packet of one that may be.
func sealed(t *testing.T, m api.Master, p api.Rtp, index int64) []byte {
	t.Helper()
	b, e := srtp.New(m, 1).Seal(p, index)
	if e != api.OK {
		t.Fatalf("Seal(%+v, %d): %d", p, index, e)
	}
	return b
}

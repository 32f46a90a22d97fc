package srtcp_test

import (
	"bytes"
	"crypto/aes"
	"crypto/cipher"
	"crypto/hmac"
	"crypto/sha1"
	"encoding/binary"
	"math/rand"
	"slices"
	"testing"

	"tenaille/api"
	"tenaille/rtcp"
	"tenaille/srtcp"
)

// The model goes by the chapter's words, with another cipher and another tag than the program's, and keeps every index that was there.

// modelStream is what a counter's stream makes of bytes.
func modelStream(key, counter, b []byte) []byte {
	block, err := aes.NewCipher(key)
	if err != nil {
		panic(err)
	}
	out := make([]byte, len(b))
	cipher.NewCTR(block, counter).XORKeyStream(out, b)
	return out
}

// modelKeys are those of control: to cipher, to tag, the salt.
func modelKeys(m api.Master) [3][]byte {
	var keys [3][]byte
	for i, size := range []int{16, 20, 14} {
		counter := append(bytes.Clone(m.Salt[:]), 0, 0)
		counter[7] ^= byte(3 + i)
		keys[i] = modelStream(m.Key[:], counter, make([]byte, size))
	}
	return keys
}

// modelTurn is a compound's bytes, those behind the first eight ciphered, or deciphered.
func modelTurn(m api.Master, b []byte, index int64) []byte {
	keys := modelKeys(m)
	counter := append(bytes.Clone(keys[2]), 0, 0)
	for i := range 4 {
		counter[4+i] ^= b[4+i]
		counter[10+i] ^= byte(index >> (24 - 8*i))
	}
	return append(bytes.Clone(b[:8]), modelStream(keys[0], counter, b[8:])...)
}

// modelTag is the tag of ciphered bytes, the index's among them.
func modelTag(m api.Master, b []byte) []byte {
	h := hmac.New(sha1.New, modelKeys(m)[1])
	h.Write(b)
	return h.Sum(nil)[:10]
}

// modelSeal is the ciphered compound of at least eight bytes, which needn't be one.
func modelSeal(m api.Master, plain []byte, index int64) []byte {
	b := modelTurn(m, plain, index)
	b = binary.BigEndian.AppendUint32(b, uint32(1<<31+index))
	return append(b, modelTag(m, b)...)
}

// modelWay has of each source all the indices that were there.
type modelWay struct {
	master      api.Master
	limit, used int
	next        int64
	there       map[uint32][]int64
}

func newModel(m api.Master, limit int) *modelWay {
	return &modelWay{master: m, limit: limit, there: map[uint32][]int64{}}
}

func (w *modelWay) high(source uint32) int64 {
	if len(w.there[source]) == 0 {
		return -1
	}
	return slices.Max(w.there[source])
}

func (w *modelWay) seal(l []api.Ctrl) ([]byte, api.Errno) {
	if w.used >= w.limit || w.next == 1<<31 {
		return nil, api.ErrKey
	}
	plain, e := rtcp.Write(l)
	if e != api.OK || len(plain) < 8 || len(plain) > 1186 {
		return nil, api.ErrArg
	}
	w.used++
	w.next++
	return modelSeal(w.master, plain, w.next-1), api.OK
}

func (w *modelWay) open(b []byte) ([]api.Ctrl, uint32, api.Errno) {
	if len(b) > 1200 {
		return nil, 0, api.ErrForm
	}
	if len(b) < 22 {
		return nil, 0, api.ErrShort
	}
	end := len(b) - 14
	if b[end] < 128 {
		return nil, 0, api.ErrForm
	}
	if w.used >= w.limit {
		return nil, 0, api.ErrKey
	}
	source := binary.BigEndian.Uint32(b[4:])
	index := int64(binary.BigEndian.Uint32(b[end:])) - 1<<31
	if len(w.there[source]) == 0 && len(w.there) == 8 {
		return nil, 0, api.ErrFull
	}
	if slices.Contains(w.there[source], index) || index <= w.high(source)-64 {
		return nil, 0, api.ErrOld
	}
	if !bytes.Equal(b[end+4:], modelTag(w.master, b[:end+4])) {
		return nil, 0, api.ErrAuth
	}
	w.used++
	w.there[source] = append(w.there[source], index)
	l, e := rtcp.Read(modelTurn(w.master, b[:end], index))
	if e != api.OK {
		return nil, 0, api.ErrForm
	}
	return l, source, api.OK
}

// pair is a way and its model, to which the same is done.
type pair struct {
	t     *testing.T
	way   *srtcp.Way
	model *modelWay
}

func newPair(t *testing.T, m api.Master, limit int) pair {
	return pair{t: t, way: srtcp.New(m, limit), model: newModel(m, limit)}
}

// seal holds Seal against the model, and what is kept afterwards.
func (c pair) seal(l ...api.Ctrl) ([]byte, api.Errno) {
	c.t.Helper()
	want, code := c.model.seal(l)
	b, e := c.way.Seal(l)
	if e != code || !bytes.Equal(b, want) {
		c.t.Fatalf("Seal(%+v): %x, %d, asked for: %x, %d", l, b, e, want, code)
	}
	c.kept()
	return b, e
}

// open holds Open against the model, and what is kept afterwards, and looks whether b is what it was.
func (c pair) open(b []byte) api.Errno {
	c.t.Helper()
	was := bytes.Clone(b)
	want, s, code := c.model.open(b)
	l, source, e := c.way.Open(b)
	if e != code || source != s || !alike(l, want) {
		c.t.Fatalf("Open(%x): %+v, %d, %d, asked for: %+v, %d, %d", was, l, source, e, want, s, code)
	}
	if !bytes.Equal(b, was) {
		c.t.Fatalf("%x has become %x", was, b)
	}
	if len(b) >= 8 {
		c.kept(binary.BigEndian.Uint32(b[4:]))
	}
	c.kept(0, 1, 5)
	return e
}

// kept holds what the way tells of itself against the model.
func (c pair) kept(sources ...uint32) {
	c.t.Helper()
	if c.way.Used() != c.model.used || c.way.Next() != c.model.next {
		c.t.Fatalf("used %d, next %d, asked for: %d, %d", c.way.Used(), c.way.Next(), c.model.used, c.model.next)
	}
	for source := range c.model.there {
		sources = append(sources, source)
	}
	for _, source := range sources {
		if h := c.way.High(source); h != c.model.high(source) {
			c.t.Fatalf("the highest index of %d: %d, asked for: %d", source, h, c.model.high(source))
		}
	}
}

// alike tells whether packets are the same ones; lists that are nil are as empty ones.
func alike(l, k []api.Ctrl) bool {
	return slices.EqualFunc(l, k, func(a, b api.Ctrl) bool {
		return a.Kind == b.Kind && a.Source == b.Source && a.Media == b.Media && a.Time == b.Time && a.Stamp == b.Stamp &&
			a.Packets == b.Packets && a.Octets == b.Octets && slices.Equal(a.Reports, b.Reports) && slices.Equal(a.Names, b.Names) &&
			slices.Equal(a.Sources, b.Sources) && slices.Equal(a.Losses, b.Losses) && slices.Equal(a.Firs, b.Firs) && a.Rate == b.Rate
	})
}

// master is one whose bytes are all unlike.
func master() api.Master {
	var m api.Master
	for i := range m.Key {
		m.Key[i] = byte(0xE1 + 7*i)
	}
	for i := range m.Salt {
		m.Salt[i] = byte(0x0E + 11*i)
	}
	return m
}

// turnedMaster is the master with one of its 240 bits turned.
func turnedMaster(bit int) api.Master {
	m := master()
	if bit < 128 {
		m.Key[bit/8] ^= 1 << (bit % 8)
	} else {
		m.Salt[bit/8-16] ^= 1 << (bit % 8)
	}
	return m
}

// asks is a request for whole pictures of a source: 12 bytes.
func asks(source uint32) api.Ctrl {
	return api.Ctrl{Kind: api.KindPli, Source: source, Media: ^source}
}

// told is a report about n sources: 8 bytes, and 24 for each.
func told(source uint32, n int) api.Ctrl {
	c := api.Ctrl{Kind: api.KindRR, Source: source}
	for i := range n {
		c.Reports = append(c.Reports, api.Report{Source: uint32(i), Fraction: 7, Lost: -3, High: 65536 + uint32(i), Jitter: 9, Last: 8, Delay: source})
	}
	return c
}

// each is a compound that has a packet of each kind, whose bytes 4 to 7 are a source.
func each(source uint32) []api.Ctrl {
	first := told(source, 2)
	first.Kind, first.Time, first.Stamp, first.Packets, first.Octets = api.KindSR, 1<<63+5, 6, 7, 8
	return []api.Ctrl{
		first,
		told(source, 1),
		{Kind: api.KindSDES, Names: []api.Named{{Source: source, Name: "one@there"}}},
		{Kind: api.KindBye, Sources: []uint32{1, 2, 3}},
		{Kind: api.KindNack, Source: source, Media: 4, Losses: []api.Loss{{Seq: 65535, Bits: 9}}},
		asks(source),
		{Kind: api.KindFir, Source: source, Firs: []api.Fir{{Source: 4, Seq: 255}}},
		{Kind: api.KindRemb, Source: source, Sources: []uint32{4, 5}, Rate: 1 << 40},
	}
}

// long is a compound of so many bytes, a multiple of 4 from 8 to 1200.
func long(source uint32, size int) []api.Ctrl {
	var l []api.Ctrl
	for size >= 8+24 && len(l) < 3 {
		n := min((size-8)/24, 16)
		l = append(l, told(source, n))
		size -= 8 + 24*n
	}
	for size > 0 {
		n := min((size-4)/4, 16)
		l = append(l, api.Ctrl{Kind: api.KindBye, Sources: slices.Repeat([]uint32{source}, n)})
		size -= 4 + 4*n
	}
	return l
}

// anyCompound is one by chance whose bytes 4 to 7 are a source; it may be too long to be sealed.
func anyCompound(r *rand.Rand, source uint32) []api.Ctrl {
	all := each(source)
	l := []api.Ctrl{told(source, r.Intn(17)*r.Intn(2))}
	for range r.Intn(8) {
		l = append(l, all[r.Intn(len(all))])
		if r.Intn(10) == 0 {
			l = append(l[:1], told(r.Uint32(), 16))
		}
	}
	return l
}

func anyBytes(r *rand.Rand, n int) []byte {
	b := make([]byte, n)
	r.Read(b)
	return b
}

func anyMaster(r *rand.Rand) api.Master {
	var m api.Master
	r.Read(m.Key[:])
	r.Read(m.Salt[:])
	return m
}

// at is the ciphered compound of packets by an index, which a way that seals would get to one by one.
func at(t *testing.T, m api.Master, index int64, l ...api.Ctrl) []byte {
	t.Helper()
	plain, e := rtcp.Write(l)
	if e != api.OK {
		t.Fatalf("Write(%+v): %d", l, e)
	}
	return modelSeal(m, plain, index)
}

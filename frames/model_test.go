package frames_test

import (
	"bytes"
	"crypto/hmac"
	"crypto/sha1"
	"encoding/binary"
	"math"
	"math/rand"
	"slices"
	"testing"

	"tenaille/api"
	"tenaille/frames"
)

// The model goes by the chapter's words, with places counted from the beginning, and with another HMAC than the program's.

// modelTag is the tag that stands behind bytes.
func modelTag(b, key []byte) []byte {
	h := hmac.New(sha1.New, key)
	h.Write(b)
	return h.Sum(nil)[:10]
}

// sign puts the right tag in place of the last ten bytes.
func sign(b, key []byte) []byte {
	end := len(b) - 10
	return append(bytes.Clone(b[:end]), modelTag(b[:end], key)...)
}

// modelRight tells whether bytes, at least ten of them, have the right tag.
func modelRight(b, key []byte) bool {
	return bytes.Equal(sign(b, key), b)
}

// modelMay tells whether a frame may be.
func modelMay(f api.Frame) bool {
	for _, x := range []int{f.Seat, f.Room, f.Track, f.Owner} {
		if x < 0 || x >= 255 {
			return false
		}
	}
	return f.Kind > 0 && f.Kind < 9 && f.Layer > -2 && f.Layer < 255 && len(f.Sources) < 17
}

// modelWrite is the bytes of a frame that may be.
func modelWrite(f api.Frame, key []byte) []byte {
	b := make([]byte, 15, 100)
	b[0], b[1] = byte(f.Kind), byte(f.Seat)
	binary.BigEndian.PutUint64(b[2:], f.Nonce)
	b[10], b[11], b[12], b[13] = byte(f.Room), byte(f.Track), byte(f.Owner), byte(f.Layer)
	if f.Layer == -1 {
		b[13] = 0xff
	}
	b[14] = byte(len(f.Sources))
	for _, s := range f.Sources {
		b = binary.BigEndian.AppendUint32(b, s)
	}
	return append(b, modelTag(b, key)...)
}

// modelRead is the frame that all bytes are, and an error.
func modelRead(b, key []byte) (api.Frame, api.Errno) {
	if len(b) < 25 {
		return api.Frame{}, api.ErrShort
	}
	if b[0] == 0 || b[0] > 8 || b[1] == 255 || b[10] == 255 || b[11] == 255 || b[12] == 255 || b[14] > 16 || len(b) != 25+4*int(b[14]) {
		return api.Frame{}, api.ErrForm
	}
	if !modelRight(b, key) {
		return api.Frame{}, api.ErrAuth
	}
	f := api.Frame{Kind: int(b[0]), Seat: int(b[1]), Nonce: binary.BigEndian.Uint64(b[2:]), Room: int(b[10]), Track: int(b[11]), Owner: int(b[12]), Layer: -1}
	if b[13] < 255 {
		f.Layer = int(b[13])
	}
	for at := 15; at < len(b)-10; at += 4 {
		f.Sources = append(f.Sources, binary.BigEndian.Uint32(b[at:]))
	}
	return f, api.OK
}

// modelWriteReply is the bytes of a reply that may be.
func modelWriteReply(r api.Reply, key []byte) []byte {
	b := binary.BigEndian.AppendUint64([]byte{200}, r.Nonce)
	b = binary.BigEndian.AppendUint32(append(b, byte(r.Code)), uint32(r.Value))
	return append(b, modelTag(b, key)...)
}

// modelReadReply is the reply that all bytes are, and an error.
func modelReadReply(b, key []byte) (api.Reply, api.Errno) {
	if len(b) < 24 {
		return api.Reply{}, api.ErrShort
	}
	if len(b) > 24 || b[0] != 200 || b[10] >= 128 {
		return api.Reply{}, api.ErrForm
	}
	if !modelRight(b, key) {
		return api.Reply{}, api.ErrAuth
	}
	return api.Reply{Nonce: binary.BigEndian.Uint64(b[1:]), Code: api.Errno(b[9]), Value: int(binary.BigEndian.Uint32(b[10:]))}, api.OK
}

// alike tells whether two frames are one; a list that is nil is as an empty one.
func alike(f, g api.Frame) bool {
	same := slices.Equal(f.Sources, g.Sources)
	f.Sources, g.Sources = nil, nil
	return same && f.Kind == g.Kind && f.Seat == g.Seat && f.Nonce == g.Nonce && f.Room == g.Room && f.Track == g.Track && f.Owner == g.Owner && f.Layer == g.Layer
}

// checkWrite holds Write against the model, and tells the bytes; those of a frame that may be are read again.
func checkWrite(t *testing.T, f api.Frame, key []byte) []byte {
	t.Helper()
	was, keyWas := slices.Clone(f.Sources), bytes.Clone(key)
	b, e := frames.Write(f, key)
	switch {
	case !modelMay(f):
		if len(b) != 0 || e != api.ErrArg {
			t.Fatalf("Write(%+v): %x, %d; it may not be", f, b, e)
		}
	case e != api.OK || !bytes.Equal(b, modelWrite(f, key)):
		t.Fatalf("Write(%+v, %x): %x, %d; want %x", f, key, b, e, modelWrite(f, key))
	default:
		if g, e := frames.Read(b, key); e != api.OK || !alike(f, g) {
			t.Fatalf("%+v is read as %+v, %d", f, g, e)
		}
	}
	if !slices.Equal(f.Sources, was) || !bytes.Equal(key, keyWas) {
		t.Fatal("what was handed in has been changed")
	}
	return b
}

// checkRead holds Read and Seat against the model, and tells the error; what is read is written again.
func checkRead(t *testing.T, b, key []byte) api.Errno {
	t.Helper()
	was, keyWas := bytes.Clone(b), bytes.Clone(key)
	want, code := modelRead(b, key)
	f, e := frames.Read(b, key)
	if e != code || !alike(f, want) {
		t.Fatalf("Read(%x, %x): %+v, %d; want %+v, %d", was, key, f, e, want, code)
	}
	if e == api.OK {
		if again, e := frames.Write(f, key); e != api.OK || !bytes.Equal(again, was) {
			t.Fatalf("%x is written again as %x, %d", was, again, e)
		}
	}
	checkSeat(t, b)
	if !bytes.Equal(b, was) || !bytes.Equal(key, keyWas) {
		t.Fatalf("%x has become %x, %x %x", was, b, keyWas, key)
	}
	return e
}

// checkSeat holds Seat against the chapter's words, and tells whether there is a seat.
func checkSeat(t *testing.T, b []byte) bool {
	t.Helper()
	want, is := 0, len(b) >= 25 && b[0] >= 1 && b[0] <= 8
	if is {
		want = int(b[1])
	}
	if s, ok := frames.Seat(b); s != want || ok != is {
		t.Fatalf("Seat(%x): %d, %t; want %d, %t", b, s, ok, want, is)
	}
	return is
}

// checkWriteReply holds WriteReply against the model, and tells the bytes; those of a reply that may be are read again.
func checkWriteReply(t *testing.T, r api.Reply, key []byte) []byte {
	t.Helper()
	was := bytes.Clone(key)
	b, e := frames.WriteReply(r, key)
	if r.Code < 0 || r.Code >= 256 || r.Value < 0 || r.Value >= 1<<31 {
		if len(b) != 0 || e != api.ErrArg {
			t.Fatalf("WriteReply(%+v): %x, %d; it may not be", r, b, e)
		}
		return b
	}
	if e != api.OK || !bytes.Equal(b, modelWriteReply(r, key)) {
		t.Fatalf("WriteReply(%+v, %x): %x, %d; want %x", r, key, b, e, modelWriteReply(r, key))
	}
	if x, e := frames.ReadReply(b, key); e != api.OK || x != r {
		t.Fatalf("%+v is read as %+v, %d", r, x, e)
	}
	if !bytes.Equal(key, was) {
		t.Fatal("the key has been changed")
	}
	return b
}

// checkReadReply holds ReadReply against the model, and tells the error; what is read is written again.
func checkReadReply(t *testing.T, b, key []byte) api.Errno {
	t.Helper()
	was, keyWas := bytes.Clone(b), bytes.Clone(key)
	want, code := modelReadReply(b, key)
	r, e := frames.ReadReply(b, key)
	if e != code || r != want {
		t.Fatalf("ReadReply(%x, %x): %+v, %d; want %+v, %d", was, key, r, e, want, code)
	}
	if e == api.OK {
		if again, e := frames.WriteReply(r, key); e != api.OK || !bytes.Equal(again, was) {
			t.Fatalf("%x is written again as %x, %d", was, again, e)
		}
	}
	if !bytes.Equal(b, was) || !bytes.Equal(key, keyWas) {
		t.Fatalf("%x has become %x, %x %x", was, b, keyWas, key)
	}
	return e
}

// keys: none, and of lengths about the end of a block, where a key's sum stands in for it.
func keys() [][]byte {
	list := [][]byte{nil, {}, {0}, {1}}
	for _, n := range []int{2, 16, 20, 32, 63, 64, 65, 66, 128, 200, 1000} {
		list = append(list, bytes.Repeat([]byte{byte(n), 0xa5, 3}, n)[:n])
	}
	return list
}

// edges: numbers about those that may be, those that a byte or four of them would tell as one that may be, and the least and greatest.
func edges() []int {
	list := []int{math.MinInt, math.MinInt + 1, math.MaxInt, math.MaxInt - 1}
	for _, x := range []int{0, 8, 16, 128, 255, 256, 512, 1 << 15, 1 << 16, 1 << 24, 1 << 31, 1 << 32, 1 << 40, 1 << 62} {
		for near := -3; near <= 3; near++ {
			list = append(list, x+near, -x+near)
		}
	}
	return list
}

// full is a frame whose numbers are all unlike, with so many sources.
func full(sources int) api.Frame {
	f := api.Frame{Kind: 3, Seat: 17, Nonce: 0xf1e2d3c4b5a69788, Room: 34, Track: 51, Owner: 68, Layer: 85}
	for i := range sources {
		f.Sources = append(f.Sources, 0x80c1a2e3+uint32(i)*0x01010101)
	}
	return f
}

// reply has numbers that are all unlike.
var reply = api.Reply{Nonce: 0xf1e2d3c4b5a69788, Code: 171, Value: 0x7c5d3e1f}

// anyFrame is one by chance that may be.
func anyFrame(r *rand.Rand) api.Frame {
	f := api.Frame{Kind: 1 + r.Intn(8), Seat: r.Intn(255), Nonce: r.Uint64(), Room: r.Intn(255), Track: r.Intn(255), Owner: r.Intn(255), Layer: r.Intn(256) - 1}
	for range r.Intn(17) {
		f.Sources = append(f.Sources, r.Uint32())
	}
	return f
}

// anyReply is one by chance that may be.
func anyReply(r *rand.Rand) api.Reply {
	return api.Reply{Nonce: r.Uint64(), Code: api.Errno(r.Intn(256)), Value: int(r.Int31())}
}

func anyBytes(r *rand.Rand, n int) []byte {
	b := make([]byte, n)
	r.Read(b)
	return b
}

// turned is a copy of bytes with one of them another one.
func turned(b []byte, at int, x byte) []byte {
	c := bytes.Clone(b)
	c[at] = x
	return c
}

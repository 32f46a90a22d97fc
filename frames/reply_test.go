package frames_test

import (
	"bytes"
	"encoding/hex"
	"math/rand"
	"testing"

	"tenaille/api"
	"tenaille/frames"
)

// Replies whose tags were reckoned by another program.
func TestPrintedReplies(t *testing.T) {
	for _, c := range []struct {
		r      api.Reply
		key, b string
	}{
		{api.Reply{}, "", "c800000000000000000000000000476d56a684ffa6311380"},
		{api.Reply{Nonce: 7, Code: api.ErrFull, Value: 1<<31 - 1}, "key", "c80000000000000007067ffffffff7c5e0cac6c1ffe65518"},
	} {
		if b := checkWriteReply(t, c.r, []byte(c.key)); hex.EncodeToString(b) != c.b {
			t.Errorf("%x; want %s", b, c.b)
		}
	}
}

// P26.3: WriteReply.

func TestWriteReplyCodes(t *testing.T) {
	list := edges()
	for x := range 700 {
		list = append(list, x-300)
	}
	for _, x := range list {
		b := checkWriteReply(t, api.Reply{Nonce: 5, Code: api.Errno(x), Value: 6}, key)
		if (len(b) == 24) != (x >= 0 && x <= 255) {
			t.Error(x, len(b))
		}
	}
}

func TestWriteReplyValues(t *testing.T) {
	list := edges()
	for bit := range 31 {
		list = append(list, 1<<bit, 1<<31-1-1<<bit)
	}
	for _, x := range list {
		b := checkWriteReply(t, api.Reply{Nonce: 5, Code: 6, Value: x}, key)
		if (len(b) == 24) != (x >= 0 && x <= 1<<31-1) {
			t.Error(x, len(b))
		}
	}
}

func TestWriteReplyNonces(t *testing.T) {
	for bit := range 64 {
		for _, nonce := range []uint64{1 << bit, ^uint64(1 << bit), 1<<bit - 1} {
			checkWriteReply(t, api.Reply{Nonce: nonce, Code: 1, Value: 2}, key)
		}
	}
}

func TestWriteReplyBothWrong(t *testing.T) {
	for _, code := range []api.Errno{-1, 0, 255, 256} {
		for _, value := range []int{-1, 0, 1<<31 - 1, 1 << 31} {
			checkWriteReply(t, api.Reply{Code: code, Value: value}, nil)
		}
	}
}

func TestWriteReplyKeys(t *testing.T) {
	for _, k := range keys() {
		checkWriteReply(t, reply, k)
		checkWriteReply(t, api.Reply{Code: 256}, k)
	}
}

func TestReplySharesNothing(t *testing.T) {
	k := append(make([]byte, 0, 200), key...)
	first, _ := frames.WriteReply(reply, k)
	second, _ := frames.WriteReply(reply, k)
	all := first[:cap(first)]
	for i := range all {
		all[i] ^= 0xff
	}
	b := append(make([]byte, 0, 100), second...)
	if r, e := frames.ReadReply(b, k); r != reply || e != api.OK {
		t.Error(r, e)
	}
	for _, spare := range [][]byte{k[len(k):cap(k)], b[len(b):cap(b)]} {
		for _, x := range spare {
			if x != 0 {
				t.Fatal("spare room of what was handed in is written to")
			}
		}
	}
	if !bytes.Equal(second, modelWriteReply(reply, key)) {
		t.Error("an answer shares memory")
	}
}

// P26.3: ReadReply.

// Each byte of a reply at all that it may be, with the tag that was there, and with the right one.
func TestReadReplyEachByteAtAllThatItMayBe(t *testing.T) {
	for _, good := range [][]byte{modelWriteReply(reply, key), modelWriteReply(api.Reply{}, key), modelWriteReply(api.Reply{Value: 1<<31 - 1}, key)} {
		for at := range good {
			for x := range 256 {
				b := turned(good, at, byte(x))
				e := checkReadReply(t, b, key)
				if (e == api.OK) != (b[at] == good[at]) {
					t.Fatalf("%x: %d", b, e)
				}
				e = checkReadReply(t, sign(b, key), key)
				if wrong := at == 0 && x != 200 || at == 10 && x >= 128; (e == api.ErrForm) != wrong || !wrong && e != api.OK {
					t.Fatalf("%x: %d", b, e)
				}
			}
		}
	}
}

// All first bytes at all lengths, each with the right tag.
func TestReadReplyAllFirstBytesAtAllLengths(t *testing.T) {
	for n := range 60 {
		for first := range 256 {
			b := make([]byte, n)
			if n > 0 {
				b[0] = byte(first)
			}
			if n >= 10 {
				b = sign(b, key)
			}
			e := checkReadReply(t, b, key)
			switch {
			case n < 24 && e != api.ErrShort, n >= 24 && (n > 24 || first != 200) && e != api.ErrForm, n == 24 && first == 200 && e != api.OK:
				t.Fatal(n, first, e)
			}
		}
	}
	for _, n := range []int{256 + 24, 1 << 16, 1 << 20} {
		if e := checkReadReply(t, append(modelWriteReply(reply, key), make([]byte, n)...), key); e != api.ErrForm {
			t.Error(n, e)
		}
	}
	checkReadReply(t, nil, nil)
}

// ErrShort is told ahead of ErrForm, that ahead of ErrAuth.
func TestReadReplyOrderOfErrors(t *testing.T) {
	all255 := bytes.Repeat([]byte{255}, 60)
	for n := range 60 {
		e := checkReadReply(t, all255[:n], key)
		if n < 24 && e != api.ErrShort || n >= 24 && e != api.ErrForm {
			t.Error(n, e)
		}
	}
	bad := modelWriteReply(reply, key)
	bad[23] ^= 1
	if e := checkReadReply(t, bad, key); e != api.ErrAuth {
		t.Error(e)
	}
	for _, at := range []int{0, 10} {
		if e := checkReadReply(t, turned(bad, at, 255), key); e != api.ErrForm {
			t.Error(at, e)
		}
	}
}

func TestReadReplyTags(t *testing.T) {
	good := modelWriteReply(reply, key)
	for bit := range 80 {
		if e := checkReadReply(t, turned(good, 14+bit/8, good[14+bit/8]^0x80>>(bit%8)), key); e != api.ErrAuth {
			t.Error(bit, e)
		}
	}
	for _, tag := range [][]byte{make([]byte, 10), modelTag(nil, key), modelTag(good, key), modelTag(good[1:14], key), modelTag(good[:13], key)} {
		if e := checkReadReply(t, append(bytes.Clone(good[:14]), tag...), key); e != api.ErrAuth {
			t.Errorf("%x: %d", tag, e)
		}
	}
}

func TestReadReplyKeys(t *testing.T) {
	for i, k := range keys() {
		good := modelWriteReply(reply, k)
		for j, l := range keys() {
			// The first three are one key: of zeros alone.
			same := i == j || i < 3 && j < 3
			if e := checkReadReply(t, good, l); (e == api.OK) != same || !same && e != api.ErrAuth {
				t.Error(i, j, e)
			}
		}
	}
}

// Neither is read as the other one, whatever tag it has.
func TestFramesAndRepliesAreUnlike(t *testing.T) {
	for n := range 17 {
		f := modelWrite(full(n), key)
		if e := checkReadReply(t, f, key); e != api.ErrForm {
			t.Error(n, e)
		}
		if e := checkReadReply(t, sign(f[:24], key), key); e != api.ErrForm {
			t.Error(n, e)
		}
	}
	b := modelWriteReply(reply, key)
	if e := checkRead(t, b, key); e != api.ErrShort {
		t.Error(e)
	}
	for n := range 80 {
		long := make([]byte, 25+n)
		copy(long, b)
		if e := checkRead(t, sign(long, key), key); e != api.ErrForm {
			t.Error(n, e)
		}
	}
}

// P26.4, of replies.

func TestRepliesThereAndBackByChance(t *testing.T) {
	r := rand.New(rand.NewSource(29))
	for range 20000 {
		x, k := anyReply(r), anyBytes(r, r.Intn(90))
		b := checkWriteReply(t, x, k)
		if e := checkReadReply(t, b, k); e != api.OK {
			t.Fatal(x, e)
		}
		at, bits := r.Intn(len(b)), byte(1+r.Intn(255))
		if e := checkReadReply(t, turned(b, at, b[at]^bits), k); e == api.OK {
			t.Fatalf("%x is read with its byte %d turned", b, at)
		}
	}
}

func TestReadReplyByChance(t *testing.T) {
	r := rand.New(rand.NewSource(30))
	for range 20000 {
		b := anyBytes(r, 20+r.Intn(8))
		if r.Intn(2) == 0 {
			b[0] = 200
		}
		checkReadReply(t, b, key)
		checkReadReply(t, sign(b, key), key)
	}
}

package mac_test

import (
	"bytes"
	"crypto/hmac"
	"crypto/sha1"
	"encoding/hex"
	"math"
	"math/rand"
	"strings"
	"testing"

	"tenaille/mac"
)

// known: the tags that RFC 2202 prints (the second one is the chapter's), and that of nothing by no key.
var known = []struct{ key, message, tag string }{
	{strings.Repeat("\x0b", 20), "Hi There", "b617318655057264e28bc0b6fb378c8ef146be00"},
	{"Jefe", "what do ya want for nothing?", "effcdf6ae5eb2fa2d27416d5f184df9c259a7c79"},
	{strings.Repeat("\xaa", 20), strings.Repeat("\xdd", 50), "125d7342b9ac11cd91a39af48aa17b4f63f175d3"},
	{"\x01\x02\x03\x04\x05\x06\x07\x08\x09\x0a\x0b\x0c\x0d\x0e\x0f\x10\x11\x12\x13\x14\x15\x16\x17\x18\x19", strings.Repeat("\xcd", 50), "4c9007f4026250c6bc8414f9bf50c86c2d7235da"},
	{strings.Repeat("\x0c", 20), "Test With Truncation", "4c1a03424b55e07fe7f27be1d58bb9324a9a5a04"},
	{strings.Repeat("\xaa", 80), "Test Using Larger Than Block-Size Key - Hash Key First", "aa4ae5e15272d00e95705637ce8a3b55ed402112"},
	{strings.Repeat("\xaa", 80), "Test Using Larger Than Block-Size Key and Larger Than One Block-Size Data", "e8e99d0f45237d786d6bbaa7965c7808bbff1a91"},
	{"", "", "fbdb1d1b18aa6c08324b7d64b71fb76370690e1d"},
}

// keySizes: lengths about the end of a key's block, where a key's sum stands in for it, and about a sum's length.
var keySizes = []int{0, 1, 10, 16, 19, 20, 21, 40, 62, 63, 64, 65, 66, 80, 119, 127, 128, 129, 1000}

// message: n bytes that look like chance, the same ones each time.
func message(n int) []byte {
	b := make([]byte, n)
	rand.New(rand.NewSource(int64(n))).Read(b)
	return b
}

// other: as many bytes, of another chance.
func other(n int) []byte {
	b := make([]byte, n)
	rand.New(rand.NewSource(int64(n) + 1<<32)).Read(b)
	return b
}

// reference: the whole tag, by another HMAC.
func reference(key []byte, parts ...[]byte) []byte {
	h := hmac.New(sha1.New, key)
	for _, p := range parts {
		h.Write(p)
	}
	return h.Sum(nil)
}

// want fails the test where got isn't the tag that is looked for.
func want(t *testing.T, what string, got, tag []byte) {
	t.Helper()
	if !bytes.Equal(got, tag) {
		t.Errorf("%s: %x; want %x", what, got, tag)
	}
}

// P4.1: Tag.

func TestTagOfKnownMessages(t *testing.T) {
	for _, k := range known {
		if got := hex.EncodeToString(mac.Tag([]byte(k.key), 20, []byte(k.message))); got != k.tag {
			t.Errorf("%.60q: %s; want %s", k.message, got, k.tag)
		}
	}
}

func TestTagByEveryShortKey(t *testing.T) {
	m := message(45)
	for n := range 200 {
		key := other(n)
		want(t, "tag", mac.Tag(key, 20, m), reference(key, m))
	}
}

func TestTagByKeysOfEqualBytes(t *testing.T) {
	for _, x := range []byte{0, 1, 54, 92, 128, 255} {
		for _, n := range keySizes {
			key := bytes.Repeat([]byte{x}, n)
			want(t, "tag", mac.Tag(key, 20, []byte("abc")), reference(key, []byte("abc")))
		}
	}
}

func TestTagOfEveryShortMessage(t *testing.T) {
	for _, keySize := range []int{0, 20, 64, 65} {
		key := other(keySize)
		for n := range 200 {
			want(t, "tag", mac.Tag(key, 20, message(n)), reference(key, message(n)))
		}
	}
}

func TestTagOfLongMessageByLongKey(t *testing.T) {
	key, m := other(100_000), message(1<<20+1)
	want(t, "tag", mac.Tag(key, 20, m), reference(key, m))
}

func TestLongKeyIsItsSum(t *testing.T) {
	for _, n := range []int{65, 66, 128, 1000} {
		sum := sha1.Sum(other(n))
		want(t, "by the sum", mac.Tag(sum[:], 20, []byte("abc")), mac.Tag(other(n), 20, []byte("abc")))
	}
	sum := sha1.Sum(other(64))
	if bytes.Equal(mac.Tag(sum[:], 20, []byte("abc")), mac.Tag(other(64), 20, []byte("abc"))) {
		t.Error("a key of 64 bytes stands for itself, not its sum")
	}
}

func TestKeyIsFilledWithZerosUpTo64(t *testing.T) {
	key := other(30)
	full := mac.Tag(key, 20, []byte("abc"))
	for n := 31; n <= 64; n++ {
		want(t, "zeros behind", mac.Tag(append(other(30), make([]byte, n-30)...), 20, []byte("abc")), full)
	}
	if bytes.Equal(mac.Tag(append(other(30), make([]byte, 35)...), 20, []byte("abc")), full) {
		t.Error("zeros up to 65 are another key")
	}
}

func TestTagHasItsFirstBytes(t *testing.T) {
	for _, k := range known {
		for n := 1; n <= 20; n++ {
			if got := hex.EncodeToString(mac.Tag([]byte(k.key), n, []byte(k.message))); got != k.tag[:2*n] {
				t.Errorf("%.60q, %d bytes: %s; want %s", k.message, n, got, k.tag[:2*n])
			}
		}
	}
}

func TestTagOfNoBytes(t *testing.T) {
	for _, n := range []int{0, -1, -5, -20, -256, math.MinInt32, math.MinInt} {
		if got := mac.Tag([]byte("k"), n, []byte("m")); len(got) != 0 {
			t.Errorf("%d bytes: %x", n, got)
		}
	}
}

func TestTagOfTooManyBytesIsWhole(t *testing.T) {
	all := reference([]byte("k"), []byte("m"))
	for _, n := range []int{20, 21, 64, 255, 256, 276, math.MaxInt32, math.MaxInt} {
		want(t, "too many", mac.Tag([]byte("k"), n, []byte("m")), all)
	}
}

func TestTagOfNoParts(t *testing.T) {
	for _, key := range [][]byte{nil, {}, []byte("k"), other(70)} {
		all := reference(key)
		for _, parts := range [][][]byte{nil, {}, {nil}, {{}}, {nil, {}, nil}} {
			want(t, "nothing", mac.Tag(key, 20, parts...), all)
		}
		want(t, "no argument", mac.Tag(key, 20), all)
	}
	want(t, "an empty key", mac.Tag([]byte{}, 20, []byte("m")), mac.Tag(nil, 20, []byte("m")))
}

func TestTagOfPartsIsOfTheirBytesInOrder(t *testing.T) {
	key, a, b, c := other(20), message(70), message(3), message(64)
	want(t, "three parts", mac.Tag(key, 20, a, b, c), reference(key, a, b, c))
	want(t, "turned round", mac.Tag(key, 20, c, b, a), reference(key, c, b, a))
	want(t, "with empty ones", mac.Tag(key, 20, nil, a, []byte{}, b, nil, c, nil), reference(key, a, b, c))
	want(t, "one part twice", mac.Tag(key, 20, a, a), reference(key, a, a))
	want(t, "the key as a part", mac.Tag(key, 20, key, key), reference(key, key, key))
	many := make([][]byte, 1000)
	for i := range many {
		many[i] = []byte{byte(i), byte(i >> 8)}
	}
	want(t, "many", mac.Tag(key, 20, many...), reference(key, many...))
}

func TestTagIsTheSameHoweverTheMessageIsCut(t *testing.T) {
	key, all := other(20), message(130)
	tag := reference(key, all)
	for i := range len(all) + 1 {
		for j := i; j <= len(all); j += 7 {
			want(t, "cut", mac.Tag(key, 20, all[:i], all[i:j], all[j:]), tag)
		}
	}
}

func TestTagByChance(t *testing.T) {
	r := rand.New(rand.NewSource(4))
	for range 2000 {
		key, m := other(r.Intn(200)), message(r.Intn(400))
		n, at := r.Intn(24)-2, r.Intn(len(m)+1)
		all := reference(key, m)
		want(t, "by chance", mac.Tag(key, n, m[:at], m[at:]), all[:max(0, min(n, 20))])
	}
}

// P4.2: Check.

func TestCheckOfKnownTags(t *testing.T) {
	for _, k := range known {
		tag, _ := hex.DecodeString(k.tag)
		for n := 1; n <= 20; n++ {
			if !mac.Check([]byte(k.key), tag[:n], []byte(k.message)) {
				t.Errorf("%.60q: the first %d bytes are refused", k.message, n)
			}
		}
	}
}

func TestCheckRefusesNoTag(t *testing.T) {
	for _, m := range [][]byte{nil, {}, []byte("m"), message(200)} {
		if mac.Check([]byte("k"), nil, m) || mac.Check([]byte("k"), []byte{}, m) {
			t.Errorf("no bytes are taken for a tag of %d bytes", len(m))
		}
	}
	if mac.Check(nil, nil) {
		t.Error("nothing is taken for a tag of nothing")
	}
}

func TestCheckRefusesLongerTags(t *testing.T) {
	key, m := []byte("k"), []byte("m")
	all := reference(key, m)
	for more := 1; more <= 300; more++ {
		if mac.Check(key, append(bytes.Clone(all), make([]byte, more)...), m) {
			t.Errorf("a tag and %d zeros are taken", more)
		}
	}
	if mac.Check(key, make([]byte, 21), m) || mac.Check(key, append(bytes.Clone(all), all...), m) {
		t.Error("too long")
	}
}

func TestCheckRefusesOtherBytesOfTheTag(t *testing.T) {
	key, m := other(20), message(50)
	all := reference(key, m)
	for at := 1; at < 20; at++ {
		for n := at + 1; n <= 20; n++ {
			if mac.Check(key, all[at:n], m) {
				t.Errorf("the bytes from %d to %d of the tag are taken", at, n)
			}
		}
	}
}

func TestCheckRefusesOtherKeysAndMessages(t *testing.T) {
	key, m := other(20), message(50)
	tag := reference(key, m)[:10]
	for i := range key {
		turned := bytes.Clone(key)
		turned[i] ^= 1
		if mac.Check(turned, tag, m) {
			t.Errorf("the key's byte %d turned: taken", i)
		}
	}
	for i := range m {
		turned := bytes.Clone(m)
		turned[i] ^= 1
		if mac.Check(key, tag, turned) || mac.Check(key, tag, m[:i]) {
			t.Errorf("the message's byte %d turned or cut: taken", i)
		}
	}
	if mac.Check(m, tag, key) || mac.Check(key, tag, m, m) || mac.Check(key, tag) || mac.Check(nil, tag, m) || mac.Check(key, tag, key, m) || mac.Check(key, tag, m, []byte{0}) || mac.Check(key, tag, []byte{0}, m) {
		t.Error("another key or another message: taken")
	}
}

func TestCheckTakesPartsInOrder(t *testing.T) {
	key, a, b := other(20), message(70), message(3)
	tag := reference(key, a, b)
	if !mac.Check(key, tag, a, b) || !mac.Check(key, tag, nil, a[:9], a[9:], []byte{}, b) {
		t.Error("parts in order: refused")
	}
	if mac.Check(key, tag, b, a) || mac.Check(key, tag, a) || mac.Check(key, tag, b) {
		t.Error("parts out of order, or lacking: taken")
	}
}

// P4.3: what Tag tells is checked; no other tag of that length is.

func TestWhatTagTellsIsChecked(t *testing.T) {
	for _, keySize := range keySizes {
		for _, size := range []int{0, 1, 10, 55, 56, 63, 64, 65, 200} {
			for n := 1; n <= 22; n++ {
				key, m := other(keySize), message(size)
				if !mac.Check(key, mac.Tag(key, n, m), m) {
					t.Errorf("a tag of %d bytes of %d bytes by %d: refused", n, size, keySize)
				}
			}
		}
	}
}

func TestNoOtherShortTagIsChecked(t *testing.T) {
	key, m := other(20), message(50)
	one, two := mac.Tag(key, 1, m), mac.Tag(key, 2, m)
	for x := range 1 << 16 {
		if tag := []byte{byte(x >> 8), byte(x)}; mac.Check(key, tag, m) != bytes.Equal(tag, two) {
			t.Fatalf("%x", tag)
		}
	}
	for x := range 1 << 8 {
		if tag := []byte{byte(x)}; mac.Check(key, tag, m) != bytes.Equal(tag, one) {
			t.Fatalf("%x", tag)
		}
	}
}

func TestNoTagWithAnotherByteIsChecked(t *testing.T) {
	key, m := other(20), message(50)
	for n := 1; n <= 20; n++ {
		for i := range n {
			for x := 1; x < 256; x++ {
				tag := mac.Tag(key, n, m)
				tag[i] ^= byte(x)
				if mac.Check(key, tag, m) {
					t.Fatalf("the byte %d of %d turned with %d: taken", i, n, x)
				}
			}
		}
	}
}

func TestNoTagWithTwoOtherBytesIsChecked(t *testing.T) {
	key, m := other(20), message(50)
	for i := range 20 {
		for j := range i {
			tag := mac.Tag(key, 20, m)
			tag[i] ^= 128
			tag[j] ^= 128
			if mac.Check(key, tag, m) {
				t.Errorf("the bytes %d and %d turned alike: taken", i, j)
			}
			tag = mac.Tag(key, 20, m)
			tag[i], tag[j] = tag[j], tag[i]
			if tag[i] != tag[j] && mac.Check(key, tag, m) {
				t.Errorf("the bytes %d and %d changed about: taken", i, j)
			}
		}
	}
}

// Rule 5: memory.

func TestNothingHandedInIsChanged(t *testing.T) {
	for _, keySize := range keySizes {
		keyRoom, room, tagRoom := other(keySize+100), message(300), bytes.Repeat([]byte{0xee}, 60)
		copy(tagRoom, reference(keyRoom[:keySize], room[:70], room[100:103]))
		tagWas := bytes.Clone(tagRoom)
		list := [][]byte{room[:70], room[100:103], room[200:]}
		for n := range 22 {
			mac.Tag(keyRoom[:keySize], n, list[:2]...)
			mac.Check(keyRoom[:keySize], tagRoom[:n], list[:2]...)
		}
		if !bytes.Equal(keyRoom, other(keySize+100)) || !bytes.Equal(room, message(300)) || !bytes.Equal(tagRoom, tagWas) {
			t.Errorf("a key of %d bytes: bytes, or spare room, have changed", keySize)
		}
		if &list[0][0] != &room[0] || len(list[0]) != 70 || &list[1][0] != &room[100] || len(list[1]) != 3 || &list[2][0] != &room[200] {
			t.Errorf("a key of %d bytes: the list of parts has changed", keySize)
		}
	}
}

func TestTagSharesNothing(t *testing.T) {
	key, m := other(20), message(20)
	for n := 1; n <= 21; n++ {
		first, second := mac.Tag(key, n, m), mac.Tag(key, n, m)
		clear(first[:cap(first)])
		want(t, "another answer cleared", second, reference(key, m)[:min(n, 20)])
	}
	if !bytes.Equal(key, other(20)) || !bytes.Equal(m, message(20)) {
		t.Error("the answer is of the arguments' memory")
	}
}

func TestShortTagBearsNoLongerOne(t *testing.T) {
	for n := 1; n < 20; n++ {
		tag := mac.Tag([]byte("k"), n, []byte("m"))
		if cap(tag) > n && !bytes.Equal(tag[n:cap(tag)], make([]byte, cap(tag)-n)) {
			t.Errorf("behind %d bytes there are %x", n, tag[n:cap(tag)])
		}
	}
}

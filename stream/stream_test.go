package stream_test

import (
	"bytes"
	stdaes "crypto/aes"
	stdcipher "crypto/cipher"
	"encoding/hex"
	"math"
	"math/big"
	"math/rand"
	"testing"

	"tenaille/stream"
)

const (
	longest    = 4096
	printedKey = "2b7e151628aed2a6abf7158809cf4f3c"
)

// printed: blocks of the stream of printedKey by their counters, of RFC 3711, B.2 (the first one is the chapter's).
var printed = []struct{ counter, block string }{
	{"f0f1f2f3f4f5f6f7f8f9fafbfcfd0000", "e03ead0935c95e80e166b16dd92b4eb4"},
	{"f0f1f2f3f4f5f6f7f8f9fafbfcfd0001", "d23513162b02d0f72a43a2fe4a5f97ab"},
	{"f0f1f2f3f4f5f6f7f8f9fafbfcfd0002", "41e95b3bb0a2e8dd477901e4fca894c0"},
	{"f0f1f2f3f4f5f6f7f8f9fafbfcfdfeff", "ec8cdf7398607cb0f2d21675ea9ea1e4"},
	{"f0f1f2f3f4f5f6f7f8f9fafbfcfdff00", "362b7c3c6773516318a077d7fc5073ae"},
	{"f0f1f2f3f4f5f6f7f8f9fafbfcfdff01", "6a2cc3787889374fbeb4c81b17ba6c44"},
}

// A message that SP 800-38A (F.5.1) ciphers by printedKey.
const (
	messageCounter = "f0f1f2f3f4f5f6f7f8f9fafbfcfdfeff"
	message        = "6bc1bee22e409f96e93d7e117393172aae2d8a571e03ac9c9eb76fac45af8e51" +
		"30c81c46a35ce411e5fbc1191a0a52eff69f2445df4f9b17ad2b417be66c3710"
	messageCiphered = "874d6191b620e3261bef6864990db6ce9806f66b7970fdff8617187bb9fffdff" +
		"5ae4df3edbd5d35e5b4f09020db03eab1e031dda2fbe03d1792170a0f3009cee"
)

// unhex: the bytes that are printed.
func unhex(t *testing.T, text string) []byte {
	t.Helper()
	b, err := hex.DecodeString(text)
	if err != nil {
		t.Fatal(err)
	}
	return b
}

// sixteen: 16 bytes that are printed.
func sixteen(t *testing.T, text string) [16]byte {
	t.Helper()
	return [16]byte(unhex(t, text))
}

// chance: n bytes that look like chance, the same ones for the same seed.
func chance(seed int64, n int) []byte {
	b := make([]byte, n)
	rand.New(rand.NewSource(seed)).Read(b)
	return b
}

// withRoom is a copy of b with spare room behind it, which bears marks.
func withRoom(b []byte) []byte {
	whole := append(bytes.Clone(b), bytes.Repeat([]byte{0xee}, 64)...)
	return whole[:len(b)]
}

// counters: those whose last bytes carry, down to each length of a carry, and some by chance.
func counters() [][16]byte {
	l := [][16]byte{{}, {0: 1}, {15: 1}, {0: 255}, {15: 254}, {0: 0x7f, 8: 0x80}}
	for full := 1; full <= 16; full++ {
		var all, ahead, less [16]byte
		for i := 16 - full; i < 16; i++ {
			all[i], ahead[i], less[i] = 255, 255, 255
		}
		if full < 16 {
			ahead[15-full] = 0x7f
		}
		less[15] = 254
		l = append(l, all, ahead, less)
	}
	for seed := range int64(40) {
		l = append(l, [16]byte(chance(seed, 16)))
	}
	return l
}

// oneMore: the next counter, reckoned with great numbers.
func oneMore(c [16]byte) [16]byte {
	x := new(big.Int).SetBytes(c[:])
	x.Add(x, big.NewInt(1))
	x.Mod(x, new(big.Int).Lsh(big.NewInt(1), 128))
	var next [16]byte
	x.FillBytes(next[:])
	return next
}

// another: b ciphered by another AES in counter mode.
func another(t *testing.T, key, c [16]byte, b []byte) []byte {
	t.Helper()
	block, err := stdaes.NewCipher(key[:])
	if err != nil {
		t.Fatal(err)
	}
	out := make([]byte, len(b))
	stdcipher.NewCTR(block, c[:]).XORKeyStream(out, b)
	return out
}

// turned: the first counter, put together as RFC 3711 (4.1.1) tells it: the salt times 2^16, the source times 2^64 and the index times 2^16, exclusive or.
func turned(salt [14]byte, source uint32, index uint64) [16]byte {
	x := new(big.Int).Lsh(new(big.Int).SetBytes(salt[:]), 16)
	x.Xor(x, new(big.Int).Lsh(new(big.Int).SetUint64(uint64(source)), 64))
	x.Xor(x, new(big.Int).Lsh(new(big.Int).SetUint64(index%(1<<48)), 16))
	var c [16]byte
	x.FillBytes(c[:])
	return c
}

// P6.1: First.

func TestFirstIsTheSaltWithTheNumbers(t *testing.T) {
	salts := [][14]byte{{}, {0: 1, 13: 2}, [14]byte(bytes.Repeat([]byte{255}, 14)), [14]byte(chance(1, 14)), [14]byte(chance(2, 14))}
	sources := []uint32{0, 1, 255, 256, 0x01020304, 0x7fffffff, 0x80000000, math.MaxUint32}
	indexes := []uint64{0, 1, 65535, 65536, 0x0a0b0c0d0e0f, 1<<32 - 1, 1 << 32, 1 << 47, 1<<48 - 1}
	for _, salt := range salts {
		for _, source := range sources {
			for _, index := range indexes {
				if got := stream.First(salt, source, index); got != turned(salt, source, index) {
					t.Errorf("salt %x, source %x, index %x: %x; want %x", salt, source, index, got, turned(salt, source, index))
				}
			}
		}
	}
}

func TestFirstPutsEachBitInItsPlace(t *testing.T) {
	for bit := range 14 * 8 {
		var salt [14]byte
		salt[bit/8] = 128 >> (bit % 8)
		var want [16]byte
		want[bit/8] = 128 >> (bit % 8)
		if got := stream.First(salt, 0, 0); got != want {
			t.Errorf("bit %d of the salt: %x", bit, got)
		}
	}
	for bit := range 32 {
		var want [16]byte
		want[7-bit/8] = 1 << (bit % 8)
		if got := stream.First([14]byte{}, 1<<bit, 0); got != want {
			t.Errorf("bit %d of the source: %x", bit, got)
		}
	}
	for bit := range 64 {
		var want [16]byte
		if bit < 48 {
			want[13-bit/8] = 1 << (bit % 8)
		}
		if got := stream.First([14]byte{}, 0, 1<<bit); got != want {
			t.Errorf("bit %d of the index: %x", bit, got)
		}
	}
}

func TestFirstTakesOfAnIndexItsLowBits(t *testing.T) {
	salt := [14]byte(chance(3, 14))
	for _, low := range []uint64{0, 1, 0x123456789abc, 1<<48 - 1} {
		want := stream.First(salt, 77, low)
		for _, high := range []uint64{1, 2, 0x00ff, 0x7fff, 0x8000, 0xffff} {
			if got := stream.First(salt, 77, high<<48|low); got != want {
				t.Errorf("index %x: %x; want %x", high<<48|low, got, want)
			}
		}
	}
}

func TestFirstEndsWithTwoZeros(t *testing.T) {
	full := [14]byte(bytes.Repeat([]byte{255}, 14))
	if c := stream.First(full, 0, 0); c[14] != 0 || c[15] != 0 {
		t.Errorf("%x", c)
	}
	if c := stream.First(full, math.MaxUint32, math.MaxUint64); c != [16]byte{255, 255, 255, 255} {
		t.Errorf("%x", c)
	}
}

func TestFirstOfThePrintedSalt(t *testing.T) {
	salt := [14]byte(unhex(t, "f0f1f2f3f4f5f6f7f8f9fafbfcfd"))
	if got := stream.First(salt, 0, 0); got != sixteen(t, printed[0].counter) {
		t.Errorf("%x", got)
	}
}

// P6.1: Next.

func TestNextIsOneMore(t *testing.T) {
	for _, c := range counters() {
		was := c
		if got := stream.Next(c); got != oneMore(c) {
			t.Errorf("behind %x: %x; want %x", c, got, oneMore(c))
		}
		if c != was {
			t.Errorf("%x is changed: %x", was, c)
		}
	}
	if got := stream.Next([16]byte(bytes.Repeat([]byte{255}, 16))); got != [16]byte{} {
		t.Errorf("behind the greatest one: %x", got)
	}
}

func TestNextGoesOnAndOn(t *testing.T) {
	c := [16]byte{0: 9, 13: 254, 14: 255, 15: 200}
	for i := range 70000 {
		next := stream.Next(c)
		if next != oneMore(c) {
			t.Fatalf("step %d, behind %x: %x", i, c, next)
		}
		c = next
	}
}

// P6.2: Bytes.

func TestBytesOfThePrintedCounters(t *testing.T) {
	key := sixteen(t, printedKey)
	for _, p := range printed {
		if got := stream.Bytes(key, sixteen(t, p.counter), 16); !bytes.Equal(got, unhex(t, p.block)) {
			t.Errorf("%s: %x; want %s", p.counter, got, p.block)
		}
	}
	three := unhex(t, printed[0].block+printed[1].block+printed[2].block)
	if got := stream.Bytes(key, sixteen(t, printed[0].counter), 48); !bytes.Equal(got, three) {
		t.Errorf("three blocks: %x", got)
	}
	// The second byte of the counter from the end carries here.
	three = unhex(t, printed[3].block+printed[4].block+printed[5].block)
	if got := stream.Bytes(key, sixteen(t, printed[3].counter), 48); !bytes.Equal(got, three) {
		t.Errorf("three blocks over a carry: %x", got)
	}
}

func TestBytesOfEachLength(t *testing.T) {
	key, c := [16]byte(chance(4, 16)), [16]byte(chance(5, 16))
	c[15] = 250
	whole := another(t, key, c, make([]byte, longest))
	for n := range longest + 1 {
		if got := stream.Bytes(key, c, n); !bytes.Equal(got, whole[:n]) {
			t.Fatalf("%d bytes: %x; want %x", n, got, whole[:n])
		}
	}
}

func TestBytesOfEachCounter(t *testing.T) {
	for seed, c := range counters() {
		key := [16]byte(chance(int64(1000+seed), 16))
		for _, n := range []int{1, 15, 16, 17, 100} {
			if got, want := stream.Bytes(key, c, n), another(t, key, c, make([]byte, n)); !bytes.Equal(got, want) {
				t.Errorf("key %x, counter %x: %x; want %x", key, c, got, want)
			}
		}
	}
}

func TestBytesAreTheBlocksOfTheCounters(t *testing.T) {
	key, c := [16]byte(chance(6, 16)), [16]byte(bytes.Repeat([]byte{255}, 16))
	c[14], c[15] = 254, 200
	whole := stream.Bytes(key, c, longest)
	for at := 0; at < longest; at += 16 {
		if got := stream.Bytes(key, c, 16); !bytes.Equal(got, whole[at:at+16]) {
			t.Errorf("the block at %d: %x; want %x", at, got, whole[at:at+16])
		}
		c = stream.Next(c)
	}
}

func TestBytesBelowOneAreNone(t *testing.T) {
	for _, n := range []int{0, -1, -16, -4096, math.MinInt32, math.MinInt} {
		if got := stream.Bytes([16]byte{1}, [16]byte{2}, n); len(got) != 0 {
			t.Errorf("%d bytes: %x", n, got)
		}
	}
}

func TestBytesAreAtMost4096(t *testing.T) {
	key, c := [16]byte(chance(7, 16)), [16]byte(chance(8, 16))
	want := another(t, key, c, make([]byte, longest))
	for _, n := range []int{longest, longest + 1, longest + 16, 9999, math.MaxInt32, math.MaxInt} {
		if got := stream.Bytes(key, c, n); !bytes.Equal(got, want) {
			t.Errorf("%d bytes: %d of them", n, len(got))
		}
	}
}

func TestBytesAreNewMemory(t *testing.T) {
	key, c := [16]byte(chance(9, 16)), [16]byte(chance(10, 16))
	first, second := stream.Bytes(key, c, 40), stream.Bytes(key, c, 40)
	want := another(t, key, c, make([]byte, 40))
	clear(first[:cap(first)])
	if !bytes.Equal(second, want) || !bytes.Equal(stream.Bytes(key, c, 40), want) {
		t.Errorf("two answers share memory: %x", second)
	}
}

// P6.2: Cipher.

func TestCipherOfThePrintedMessage(t *testing.T) {
	got := stream.Cipher(sixteen(t, printedKey), sixteen(t, messageCounter), unhex(t, message))
	if !bytes.Equal(got, unhex(t, messageCiphered)) {
		t.Errorf("%x; want %s", got, messageCiphered)
	}
}

func TestCipherOfEachLength(t *testing.T) {
	key, c, b := [16]byte(chance(11, 16)), [16]byte(chance(12, 16)), chance(13, longest)
	c[15] = 255
	whole := another(t, key, c, b)
	for n := range longest + 1 {
		if got := stream.Cipher(key, c, b[:n]); !bytes.Equal(got, whole[:n]) {
			t.Fatalf("%d bytes: %x; want %x", n, got, whole[:n])
		}
	}
}

func TestCipherOfZerosIsTheStream(t *testing.T) {
	for seed, c := range counters() {
		key := [16]byte(chance(int64(2000+seed), 16))
		if got, want := stream.Cipher(key, c, make([]byte, 99)), stream.Bytes(key, c, 99); !bytes.Equal(got, want) {
			t.Errorf("key %x, counter %x: %x; want %x", key, c, got, want)
		}
	}
}

func TestCipherOfTooManyIsNothing(t *testing.T) {
	for _, n := range []int{longest + 1, longest + 16, 2 * longest, 1 << 20} {
		if got := stream.Cipher([16]byte{1}, [16]byte{2}, make([]byte, n)); len(got) != 0 {
			t.Errorf("of %d bytes: %d", n, len(got))
		}
	}
}

func TestCipherOfNothing(t *testing.T) {
	for _, b := range [][]byte{nil, {}, withRoom(nil)} {
		if got := stream.Cipher([16]byte{1}, [16]byte{2}, b); len(got) != 0 {
			t.Errorf("%x", got)
		}
	}
}

func TestCipherDoesNotWriteToWhatItIsGiven(t *testing.T) {
	key, c := [16]byte(chance(14, 16)), [16]byte(chance(15, 16))
	for _, n := range []int{0, 1, 15, 16, 17, 31, 32, 100, longest, longest + 1} {
		was := chance(16, n)
		b := withRoom(was)
		first, second := stream.Cipher(key, c, b), stream.Cipher(key, c, b)
		copied := bytes.Clone(second)
		clear(first[:cap(first)])
		whole := b[:n+64]
		if !bytes.Equal(b, was) || !bytes.Equal(whole[n:], bytes.Repeat([]byte{0xee}, 64)) {
			t.Errorf("%d bytes: what was handed in is changed", n)
		}
		clear(whole)
		if !bytes.Equal(second, copied) {
			t.Errorf("%d bytes: the answer shares memory", n)
		}
	}
}

// P6.3: what is ciphered twice is what it was.

func TestCipheredTwiceIsWhatItWas(t *testing.T) {
	for seed, c := range counters() {
		key := [16]byte(chance(int64(3000+seed), 16))
		for _, n := range []int{1, 2, 15, 16, 17, 300, longest} {
			b := chance(int64(n), n)
			once := stream.Cipher(key, c, b)
			if n >= 15 && bytes.Equal(once, b) {
				t.Errorf("key %x, counter %x: %d bytes aren't ciphered", key, c, n)
			}
			if twice := stream.Cipher(key, c, once); !bytes.Equal(twice, b) {
				t.Errorf("key %x, counter %x: %d bytes: %x; want %x", key, c, n, twice, b)
			}
		}
	}
}

func TestCipheredByAnotherIsNotWhatItWas(t *testing.T) {
	key, c, b := [16]byte(chance(17, 16)), [16]byte(chance(18, 16)), chance(19, 64)
	once := stream.Cipher(key, c, b)
	for bit := range 128 {
		turnedKey, turnedCounter := key, c
		turnedKey[bit/8] ^= 1 << (bit % 8)
		turnedCounter[bit/8] ^= 1 << (bit % 8)
		if bytes.Equal(stream.Cipher(turnedKey, c, once), b) || bytes.Equal(stream.Cipher(key, turnedCounter, once), b) {
			t.Errorf("bit %d of the key or the counter turns nothing", bit)
		}
	}
}

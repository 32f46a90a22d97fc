package aes_test

import (
	stdaes "crypto/aes"
	"encoding/hex"
	"math/rand"
	"testing"

	"tenaille/aes"
)

// printedBox: the box as FIPS 197 prints it.
const printedBox = "" +
	"637c777bf26b6fc53001672bfed7ab76" + "ca82c97dfa5947f0add4a2af9ca472c0" +
	"b7fd9326363ff7cc34a5e5f171d83115" + "04c723c31896059a071280e2eb27b275" +
	"09832c1a1b6e5aa0523bd6b329e32f84" + "53d100ed20fcb15b6acbbe394a4c58cf" +
	"d0efaafb434d338545f9027f503c9fa8" + "51a3408f929d38f5bcb6da2110fff3d2" +
	"cd0c13ec5f974417c4a77e3d645d1973" + "60814fdc222a908846eeb814de5e0bdb" +
	"e0323a0a4906245cc2d3ac629195e479" + "e7c8376d8dd54ea96c56f4ea657aae08" +
	"ba78252e1ca6b4c6e8dd741f4bbd8b8a" + "703eb5664803f60e613557b986c11d9e" +
	"e1f8981169d98e949b1e87e9ce5528df" + "8ca1890dbfe6426841992d0fb054bb16"

// printedWords: those of a key that FIPS 197's appendix A.1 prints.
const printedWords = "" +
	"2b7e151628aed2a6abf7158809cf4f3c" + "a0fafe1788542cb123a339392a6c7605" +
	"f2c295f27a96b9435935807a7359f67f" + "3d80477d4716fe3e1e237e446d7a883b" +
	"ef44a541a8525b7fb671253bdb0bad00" + "d4d1c6f87c839d87caf2b8bc11f915bc" +
	"6d88a37a110b3efddbf98641ca0093fd" + "4e54f70e5f5fc9f384a64fb24ea6dc4f" +
	"ead27321b58dbad2312bf5607f8d292f" + "ac7766f319fadc2128d12941575c006e" +
	"d014f9a8c9ee2589e13f0cc8b6630ca6"

// known: blocks that are printed in FIPS 197 (appendices B and C.1, the latter the chapter's) and in SP 800-38A (F.1.1).
var known = []struct{ key, in, out string }{
	{"000102030405060708090a0b0c0d0e0f", "00112233445566778899aabbccddeeff", "69c4e0d86a7b0430d8cdb78070b4c55a"},
	{"2b7e151628aed2a6abf7158809cf4f3c", "3243f6a8885a308d313198a2e0370734", "3925841d02dc09fbdc118597196a0b32"},
	{"2b7e151628aed2a6abf7158809cf4f3c", "6bc1bee22e409f96e93d7e117393172a", "3ad77bb40d7a3660a89ecaf32466ef97"},
	{"2b7e151628aed2a6abf7158809cf4f3c", "ae2d8a571e03ac9c9eb76fac45af8e51", "f5d3d58503b9699de785895a96fdbaaf"},
	{"2b7e151628aed2a6abf7158809cf4f3c", "30c81c46a35ce411e5fbc1191a0a52ef", "43b1cd7f598ece23881b00e3ed030688"},
	{"2b7e151628aed2a6abf7158809cf4f3c", "f69f2445df4f9b17ad2b417be66c3710", "7b0c785e27e8ad3f8223207104725dd4"},
	{"00000000000000000000000000000000", "00000000000000000000000000000000", "66e94bd4ef8a2c3b884cfa59ca342b2e"},
}

// unhex: the bytes that are printed.
func unhex(t *testing.T, text string) []byte {
	t.Helper()
	b, err := hex.DecodeString(text)
	if err != nil {
		t.Fatal(err)
	}
	return b
}

// chance: 16 bytes that look like chance, the same ones for the same number.
func chance(n int64) [16]byte {
	var b [16]byte
	rand.New(rand.NewSource(n)).Read(b[:])
	return b
}

// equal: 16 bytes, all of them x.
func equal(x byte) [16]byte {
	var b [16]byte
	for i := range b {
		b[i] = x
	}
	return b
}

// bit: 16 bytes of zeros but for one bit.
func bit(i int) [16]byte {
	var b [16]byte
	b[i/8] = 1 << (i % 8)
	return b
}

// want fails the test where got isn't the block as another AES ciphers it.
func want(t *testing.T, got, key, in [16]byte) {
	t.Helper()
	reference, err := stdaes.NewCipher(key[:])
	if err != nil {
		t.Fatal(err)
	}
	var out [16]byte
	reference.Encrypt(out[:], in[:])
	if got != out {
		t.Errorf("%x by %x: %x; want %x", in, key, got, out)
	}
}

// product: a and b multiplied as polynomials, then what is left of that by the modulus.
func product(a, b byte) byte {
	x := 0
	for i := range 8 {
		if b>>i&1 == 1 {
			x ^= int(a) << i
		}
	}
	for i := 14; i >= 8; i-- {
		if x>>i&1 == 1 {
			x ^= 0x11b << (i - 8)
		}
	}
	return byte(x)
}

// P5.1: Times.

func TestTimesOfAllPairs(t *testing.T) {
	for a := range 256 {
		for b := range 256 {
			if x, y := aes.Times(byte(a), byte(b)), product(byte(a), byte(b)); x != y {
				t.Fatalf("%d times %d: %d; want %d", a, b, x, y)
			}
		}
	}
}

func TestTimesOfKnownBytes(t *testing.T) {
	for _, k := range [][3]byte{
		{0x57, 0x83, 0xc1}, {0x57, 0x13, 0xfe}, {0x57, 0x02, 0xae}, {0x57, 0x04, 0x47}, {0x57, 0x08, 0x8e}, {0x57, 0x10, 0x07},
		{0x53, 0xca, 0x01}, {0x80, 0x02, 0x1b}, {0x80, 0x80, 0x9a}, {0xff, 0xff, 0x13}, {7, 0, 0}, {0, 7, 0}, {0, 0, 0}, {1, 0xff, 0xff}, {0xff, 1, 0xff},
	} {
		if x := aes.Times(k[0], k[1]); x != k[2] {
			t.Errorf("%x times %x: %x; want %x", k[0], k[1], x, k[2])
		}
	}
}

// P5.1: Box.

func TestBoxIsThePrintedOne(t *testing.T) {
	if box := aes.Box(); box != [256]byte(unhex(t, printedBox)) {
		t.Errorf("%x; want %s", box, printedBox)
	}
}

func TestBoxIsOfTheInverse(t *testing.T) {
	box := aes.Box()
	for x := range 256 {
		inverse := byte(0)
		for y := range 256 {
			if product(byte(x), byte(y)) == 1 {
				inverse = byte(y)
			}
		}
		boxed := byte(0)
		for i := range 8 {
			b := byte(99) >> i
			for _, k := range []int{0, 4, 5, 6, 7} {
				b ^= inverse >> ((i + k) % 8)
			}
			boxed |= b & 1 << i
		}
		if box[x] != boxed {
			t.Errorf("%x: %x; want %x", x, box[x], boxed)
		}
	}
}

// P5.1: Words.

func TestWordsOfAPrintedKey(t *testing.T) {
	all := unhex(t, printedWords)
	if words := aes.Words([16]byte(all)); words != [176]byte(all) {
		t.Errorf("%x; want %s", words, printedWords)
	}
}

func TestWordsAreAsTheyAreDefined(t *testing.T) {
	keys := [][16]byte{equal(0), equal(1), equal(0x80), equal(0xff)}
	for i := range 128 {
		keys = append(keys, bit(i))
	}
	for i := range 500 {
		keys = append(keys, chance(int64(i)))
	}
	box := unhex(t, printedBox)
	for _, key := range keys {
		words := aes.Words(key)
		if [16]byte(words[:]) != key {
			t.Errorf("%x: begins with %x", key, words[:16])
		}
		constants := [10]byte{1, 2, 4, 8, 16, 32, 64, 128, 27, 54}
		for w := 4; w < 44; w++ {
			last := [4]byte(words[4*w-4:])
			if w%4 == 0 {
				last = [4]byte{box[last[1]] ^ constants[w/4-1], box[last[2]], box[last[3]], box[last[0]]}
			}
			for i := range 4 {
				if words[4*w+i] != words[4*w-16+i]^last[i] {
					t.Fatalf("%x: the word %d is %x", key, w, words[4*w:4*w+4])
				}
			}
		}
	}
}

// P5.2: New and Block.

func TestBlockOfKnownBlocks(t *testing.T) {
	for _, k := range known {
		c := aes.New([16]byte(unhex(t, k.key)))
		if c == nil {
			t.Fatal("none")
		}
		if out := c.Block([16]byte(unhex(t, k.in))); hex.EncodeToString(out[:]) != k.out {
			t.Errorf("%s by %s: %x; want %s", k.in, k.key, out, k.out)
		}
	}
}

func TestBlockByEqualBytes(t *testing.T) {
	for x := range 256 {
		key := equal(byte(x))
		c := aes.New(key)
		for y := range 256 {
			want(t, c.Block(equal(byte(y))), key, equal(byte(y)))
		}
	}
}

func TestBlockByOneBit(t *testing.T) {
	for i := range 128 {
		c := aes.New(bit(i))
		want(t, c.Block(equal(0)), bit(i), equal(0))
		for j := range 128 {
			want(t, c.Block(bit(j)), bit(i), bit(j))
		}
	}
}

func TestBlockByChance(t *testing.T) {
	for i := range int64(5000) {
		key, in := chance(i), chance(-1-i)
		want(t, aes.New(key).Block(in), key, in)
	}
}

// A block that is ciphered again and again comes by many bytes at each place.
func TestBlockOfBlocks(t *testing.T) {
	key, b := chance(1), chance(2)
	c := aes.New(key)
	for range 20000 {
		next := c.Block(b)
		want(t, next, key, b)
		b = next
	}
}

func TestBlockOfNilIsItself(t *testing.T) {
	var none *aes.Cipher
	for _, in := range [][16]byte{equal(0), equal(0xff), bit(0), bit(127), chance(1)} {
		if out := none.Block(in); out != in {
			t.Errorf("%x: %x", in, out)
		}
	}
}

// A cipher that New hasn't made is as none.
func TestBlockOfZeroCipherIsItself(t *testing.T) {
	var zero aes.Cipher
	for _, in := range [][16]byte{equal(0), equal(0xff), bit(0), bit(127), chance(1)} {
		if out := zero.Block(in); out != in {
			t.Errorf("%x: %x", in, out)
		}
	}
	if aes.New(equal(0)).Block(equal(0)) == equal(0) {
		t.Error("a key of zeros is as none")
	}
}

func TestBlockTellsTheSameEachTime(t *testing.T) {
	key := chance(1)
	c, d := aes.New(key), aes.New(key)
	first := c.Block(bit(5))
	for i := range 200 {
		if c.Block(bit(5)) != first || d.Block(bit(5)) != first {
			t.Fatalf("behind %d other blocks: another answer", i)
		}
		c.Block(chance(int64(i)))
	}
}

func TestCiphersAreApart(t *testing.T) {
	a, b := aes.New(chance(1)), aes.New(chance(2))
	for i := range int64(100) {
		want(t, a.Block(chance(i)), chance(1), chance(i))
		want(t, b.Block(chance(i)), chance(2), chance(i))
	}
}

func TestAnswersShareNothing(t *testing.T) {
	key := chance(1)
	box, words, c := aes.Box(), aes.Words(key), aes.New(key)
	clear(box[:])
	clear(words[:])
	if aes.Box() != [256]byte(unhex(t, printedBox)) || aes.Words(key) == words {
		t.Error("an answer cleared is told again")
	}
	was := key
	clear(key[:])
	want(t, c.Block(bit(1)), was, bit(1))
}

// P5.3: no two alike.

func TestNoTwoBytesHaveOneBox(t *testing.T) {
	var of [256]int
	for x, y := range aes.Box() {
		of[y]++
		if of[y] > 1 {
			t.Errorf("%x isn't the first one with the box %x", x, y)
		}
	}
}

// apart fails the test where two of the blocks are ciphered alike.
func apart(t *testing.T, c *aes.Cipher, blocks [][16]byte) {
	t.Helper()
	from := map[[16]byte][16]byte{}
	for _, in := range blocks {
		out := c.Block(in)
		if other, ok := from[out]; ok && other != in {
			t.Fatalf("%x and %x: both %x", other, in, out)
		}
		from[out] = in
	}
}

func TestNoTwoNearBlocksAreCipheredAlike(t *testing.T) {
	for _, key := range [][16]byte{equal(0), equal(0xff), bit(0), chance(1)} {
		var blocks [][16]byte
		for at := range 16 {
			for x := range 256 {
				b := chance(7)
				b[at] = byte(x)
				blocks = append(blocks, b)
			}
		}
		for i := range 128 {
			for j := range i {
				b := bit(i)
				b[j/8] |= 1 << (j % 8)
				blocks = append(blocks, bit(i), b)
			}
		}
		apart(t, aes.New(key), blocks)
	}
}

func TestNoTwoCountersAreCipheredAlike(t *testing.T) {
	var blocks [][16]byte
	for n := range 1 << 16 {
		b := chance(8)
		b[14], b[15] = byte(n>>8), byte(n)
		blocks = append(blocks, b)
	}
	apart(t, aes.New(chance(9)), blocks)
}

// Blocks that can be told back from what they are ciphered to are not ciphered alike.
func TestBlocksCanBeToldBack(t *testing.T) {
	for i := range int64(2000) {
		key, in := chance(i), chance(-1-i)
		out := aes.New(key).Block(in)
		reference, err := stdaes.NewCipher(key[:])
		if err != nil {
			t.Fatal(err)
		}
		var back [16]byte
		reference.Decrypt(back[:], out[:])
		if back != in {
			t.Fatalf("%x by %x: told back as %x", in, key, back)
		}
	}
}

func BenchmarkNew(b *testing.B) {
	key := chance(1)
	for b.Loop() {
		aes.New(key)
	}
}

func BenchmarkBlock(b *testing.B) {
	c, block := aes.New(chance(1)), chance(2)
	for b.Loop() {
		block = c.Block(block)
	}
}

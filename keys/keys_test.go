package keys_test

import (
	"bytes"
	stdaes "crypto/aes"
	stdcipher "crypto/cipher"
	"encoding/hex"
	"fmt"
	"math"
	"math/big"
	"math/rand"
	"testing"

	"tenaille/api"
	"tenaille/keys"
)

const longest = 4096

// What RFC 3711, B.3 prints: a master, and what is derived of it (the first and the third piece are the chapter's).
const (
	printedKey  = "e1f97a0d3e018be0d64fa32c06de4139"
	printedSalt = "0ec675ad498afeebb6960b3aabe6"

	printedCipher = "c61e7a93744f39ee10734afe3ff7a087"
	printedOwn    = "30cbbc08863d8c85d49db34a9ae1"
	printedAuth   = "cebe321f6ff7716b6fd4ab49af256a15" + "6d38baa48f0a0acf3c34e2359e6cdbce" +
		"e049646c43d9327ad175578ef7227098" + "6371c10c9a369ac2f94a8c5fbcdddc25" +
		"6d6e919a48b610ef17c2041e47403576" + "6b68642c59bbfc2f34db60dbdfb2"
)

// unhex: the bytes that are printed.
func unhex(t *testing.T, text string) []byte {
	t.Helper()
	b, err := hex.DecodeString(text)
	if err != nil {
		t.Fatal(err)
	}
	return b
}

// printed: the master that is printed.
func printed(t *testing.T) api.Master {
	t.Helper()
	return api.Master{Key: [16]byte(unhex(t, printedKey)), Salt: [14]byte(unhex(t, printedSalt))}
}

// chance: a master that looks like chance, the same one for the same seed.
func chance(seed int64) api.Master {
	var m api.Master
	r := rand.New(rand.NewSource(seed))
	r.Read(m.Key[:])
	r.Read(m.Salt[:])
	return m
}

// masters: some of zeros, of ones, of both, the printed one, and some by chance.
func masters(t *testing.T) []api.Master {
	t.Helper()
	ones := [16]byte(bytes.Repeat([]byte{255}, 16))
	l := []api.Master{{}, {Key: ones, Salt: [14]byte(ones[:14])}, {Key: ones}, {Salt: [14]byte(ones[:14])}, printed(t)}
	for seed := range int64(20) {
		l = append(l, chance(seed))
	}
	return l
}

// another: what is derived, by another AES in counter mode, of the counter that RFC 3711 (4.3.1, 4.3.3) tells: the salt times 2^16, exclusive or the label times 2^48 times 2^16.
func another(t *testing.T, m api.Master, label byte, n int) []byte {
	t.Helper()
	x := new(big.Int).SetBytes(m.Salt[:])
	x.Xor(x, new(big.Int).Lsh(big.NewInt(int64(label)), 48))
	x.Lsh(x, 16)
	var c [16]byte
	x.FillBytes(c[:])
	block, err := stdaes.NewCipher(m.Key[:])
	if err != nil {
		t.Fatal(err)
	}
	out := make([]byte, n)
	stdcipher.NewCTR(block, c[:]).XORKeyStream(out, out)
	return out
}

// wanted: the keys by three labels from first on, by another AES.
func wanted(t *testing.T, m api.Master, first byte) api.Keys {
	t.Helper()
	return api.Keys{
		Key:  [16]byte(another(t, m, first, 16)),
		Auth: [20]byte(another(t, m, first+1, 20)),
		Salt: [14]byte(another(t, m, first+2, 14)),
	}
}

// bitsTurned: the masters that differ from m in one bit, each named by it.
func bitsTurned(m api.Master) map[string]api.Master {
	all := map[string]api.Master{}
	for bit := range 8 * len(m.Key) {
		x := m
		x.Key[bit/8] ^= 128 >> (bit % 8)
		all[fmt.Sprintf("bit %d of the key", bit)] = x
	}
	for bit := range 8 * len(m.Salt) {
		x := m
		x.Salt[bit/8] ^= 128 >> (bit % 8)
		all[fmt.Sprintf("bit %d of the salt", bit)] = x
	}
	return all
}

// P7.1: Derive.

func TestDeriveOfThePrintedMaster(t *testing.T) {
	m := printed(t)
	for _, c := range []struct {
		label byte
		want  string
	}{{0, printedCipher}, {1, printedAuth}, {2, printedOwn}} {
		want := unhex(t, c.want)
		if got := keys.Derive(m, c.label, len(want)); !bytes.Equal(got, want) {
			t.Errorf("label %d: %x; want %x", c.label, got, want)
		}
	}
}

func TestDeriveByEachLabel(t *testing.T) {
	for i, m := range masters(t) {
		for label := range 256 {
			for _, n := range []int{1, 14, 16, 20, 33} {
				if got, want := keys.Derive(m, byte(label), n), another(t, m, byte(label), n); !bytes.Equal(got, want) {
					t.Fatalf("master %d, label %d: %x; want %x", i, label, got, want)
				}
			}
		}
	}
}

func TestDeriveOfEachLength(t *testing.T) {
	m := chance(100)
	for _, label := range []byte{0, 1, 5, 255} {
		whole := another(t, m, label, longest)
		for n := range longest + 1 {
			if got := keys.Derive(m, label, n); !bytes.Equal(got, whole[:n]) {
				t.Fatalf("label %d, %d bytes: %x; want %x", label, n, got, whole[:n])
			}
		}
	}
}

func TestDeriveBelowOneIsNothing(t *testing.T) {
	for _, n := range []int{0, -1, -16, -longest, math.MinInt32, math.MinInt} {
		if got := keys.Derive(chance(101), 1, n); len(got) != 0 {
			t.Errorf("%d bytes: %x", n, got)
		}
	}
}

func TestDeriveIsAtMost4096(t *testing.T) {
	m := chance(102)
	want := another(t, m, 3, longest)
	for _, n := range []int{longest, longest + 1, longest + 16, 9999, math.MaxInt32, math.MaxInt} {
		if got := keys.Derive(m, 3, n); !bytes.Equal(got, want) {
			t.Errorf("%d bytes: %d of them", n, len(got))
		}
	}
}

// The label turns the eighth byte alone: so does the salt there, and both at once turn nothing.
func TestDeriveByALabelIsByASaltThatIsTurned(t *testing.T) {
	m := chance(103)
	for label := range 256 {
		turned := m
		turned.Salt[7] ^= byte(label)
		want := keys.Derive(turned, 0, 40)
		if got := keys.Derive(m, byte(label), 40); !bytes.Equal(got, want) {
			t.Errorf("label %d: %x; want %x", label, got, want)
		}
		if got := keys.Derive(turned, byte(label), 40); !bytes.Equal(got, keys.Derive(m, 0, 40)) {
			t.Errorf("label %d, turned back: %x", label, got)
		}
	}
}

// All of it hangs on the master, and on the label.
func TestDeriveOfAnotherMasterIsAnother(t *testing.T) {
	m := chance(104)
	for label := range byte(6) {
		was := keys.Derive(m, label, 20)
		for name, x := range bitsTurned(m) {
			if bytes.Equal(keys.Derive(x, label, 20), was) {
				t.Errorf("label %d: %s turns nothing", label, name)
			}
		}
	}
}

func TestDeriveByAnotherLabelIsAnother(t *testing.T) {
	m := chance(105)
	labels := map[string]int{}
	for label := range 256 {
		piece := string(keys.Derive(m, byte(label), 16))
		if was, ok := labels[piece]; ok {
			t.Errorf("the labels %d and %d derive the same", was, label)
		}
		labels[piece] = label
	}
}

// P7.1: Rtp and Rtcp.

func TestRtpOfThePrintedMaster(t *testing.T) {
	k := keys.Rtp(printed(t))
	if !bytes.Equal(k.Key[:], unhex(t, printedCipher)) {
		t.Errorf("to cipher: %x", k.Key)
	}
	if !bytes.Equal(k.Auth[:], unhex(t, printedAuth)[:20]) {
		t.Errorf("to tag: %x", k.Auth)
	}
	if !bytes.Equal(k.Salt[:], unhex(t, printedOwn)) {
		t.Errorf("the salt: %x", k.Salt)
	}
}

func TestRtpIsByTheLabels0To2(t *testing.T) {
	for i, m := range masters(t) {
		if got, want := keys.Rtp(m), wanted(t, m, 0); got != want {
			t.Errorf("master %d: %x; want %x", i, got, want)
		}
	}
}

func TestRtcpIsByTheLabels3To5(t *testing.T) {
	for i, m := range masters(t) {
		if got, want := keys.Rtcp(m), wanted(t, m, 3); got != want {
			t.Errorf("master %d: %x; want %x", i, got, want)
		}
	}
}

func TestKeysAreWhatIsDerived(t *testing.T) {
	for i, m := range masters(t) {
		rtp, rtcp := keys.Rtp(m), keys.Rtcp(m)
		for label, piece := range [][]byte{rtp.Key[:], rtp.Auth[:], rtp.Salt[:], rtcp.Key[:], rtcp.Auth[:], rtcp.Salt[:]} {
			if want := keys.Derive(m, byte(label), len(piece)); !bytes.Equal(piece, want) {
				t.Errorf("master %d, label %d: %x; want %x", i, label, piece, want)
			}
		}
	}
}

// One piece that leaked must not tell another one, nor the master.
func TestNoTwoPiecesAreAlike(t *testing.T) {
	for i, m := range masters(t) {
		rtp, rtcp := keys.Rtp(m), keys.Rtcp(m)
		pieces := [][]byte{m.Key[:], m.Salt[:], rtp.Key[:], rtp.Auth[:], rtp.Salt[:], rtcp.Key[:], rtcp.Auth[:], rtcp.Salt[:]}
		for j, a := range pieces {
			for k, b := range pieces[:j] {
				if j > 1 && bytes.Equal(a[:14], b[:14]) {
					t.Errorf("master %d: the pieces %d and %d begin alike: %x", i, k, j, a)
				}
			}
		}
	}
}

func TestEachPieceHangsOnAllOfTheMaster(t *testing.T) {
	m := chance(106)
	rtp, rtcp := keys.Rtp(m), keys.Rtcp(m)
	for name, x := range bitsTurned(m) {
		a, b := keys.Rtp(x), keys.Rtcp(x)
		if a.Key == rtp.Key || a.Auth == rtp.Auth || a.Salt == rtp.Salt {
			t.Errorf("%s turns not all of Rtp", name)
		}
		if b.Key == rtcp.Key || b.Auth == rtcp.Auth || b.Salt == rtcp.Salt {
			t.Errorf("%s turns not all of Rtcp", name)
		}
	}
}

// P7.2: what is derived of fewer bytes is the beginning of what is of more.

func TestFewerBytesAreTheBeginningOfMore(t *testing.T) {
	for i, m := range masters(t) {
		for label := range byte(6) {
			more := keys.Derive(m, label, 100)
			for n := 99; n >= -1; n-- {
				fewer := keys.Derive(m, label, n)
				if len(fewer) != max(n, 0) || !bytes.Equal(fewer, more[:len(fewer)]) {
					t.Fatalf("master %d, label %d: %d bytes: %x; of more %x", i, label, n, fewer, more)
				}
				more = fewer
			}
		}
	}
}

func TestFewerBytesAreTheBeginningOfTheMost(t *testing.T) {
	m := chance(107)
	for label := range 256 {
		most := keys.Derive(m, byte(label), math.MaxInt)
		for _, n := range []int{1, 15, 16, 17, 2047, longest - 1, longest, longest + 1} {
			fewer := keys.Derive(m, byte(label), n)
			if len(fewer) != min(n, longest) || !bytes.Equal(fewer, most[:len(fewer)]) {
				t.Errorf("label %d: %d bytes aren't the beginning", label, n)
			}
		}
	}
}

// Rules 5 and 6: memory, and nothing else.

func TestDeriveIsNewMemory(t *testing.T) {
	m := chance(108)
	for _, n := range []int{1, 16, 20, 94, longest} {
		want := another(t, m, 1, n)
		first, second := keys.Derive(m, 1, n), keys.Derive(m, 1, n)
		clear(first[:cap(first)])
		if !bytes.Equal(second, want) || !bytes.Equal(keys.Derive(m, 1, n), want) {
			t.Errorf("%d bytes: two answers share memory", n)
		}
	}
}

func TestFewerBytesBearNoMoreBehind(t *testing.T) {
	for n := range 100 {
		b := keys.Derive(chance(109), 1, n)
		if room := b[n:cap(b)]; !bytes.Equal(room, make([]byte, len(room))) {
			t.Errorf("behind %d bytes there are %x", n, room)
		}
	}
}

func TestKeysHangOnNoOtherCalls(t *testing.T) {
	a, b := chance(110), chance(111)
	rtp, rtcp := wanted(t, a, 0), wanted(t, a, 3)
	for range 3 {
		if keys.Rtp(a) != rtp || keys.Rtcp(a) != rtcp {
			t.Error("the keys of one master aren't the same any more")
		}
		keys.Rtp(b)
		keys.Rtcp(b)
		keys.Derive(b, 0, 16)
	}
}

package srtcp

import (
	"bytes"
	"math"
	"testing"

	"tenaille/api"
)

// To get near the greatest index by sealing alone would take billions of compounds; so the next index is put there.

// wayAt is a way that seals by an index next.
func wayAt(next int64, limit int) *Way {
	w := New(api.Master{Key: [16]byte{1}, Salt: [14]byte{2}}, limit)
	w.next = next
	return w
}

func TestSealUpToTheGreatestIndex(t *testing.T) {
	l := []api.Ctrl{{Kind: api.KindRR, Source: 5}}
	w, reader := wayAt(1<<31-3, math.MaxInt), wayAt(0, 10)
	for i := int64(1<<31 - 3); i < 1<<31; i++ {
		b, code := w.Seal(l)
		if code != api.OK || w.Next() != i+1 || w.Used() != int(i-(1<<31-4)) {
			t.Fatal(i, code, w.Next(), w.Used())
		}
		want := []byte{0xFF, 0xFF, 0xFF, byte(0xFD + i - (1<<31 - 3))}
		if !bytes.Equal(b[8:12], want) {
			t.Errorf("%d: %x", i, b)
		}
		if _, source, code := reader.Open(b); code != api.OK || source != 5 || reader.High(5) != i {
			t.Error(i, source, code, reader.High(5))
		}
	}
	// It is told ahead of what may not be, and nothing is turned.
	for _, refused := range [][]api.Ctrl{l, nil, {{Kind: api.KindBye}}} {
		if b, code := w.Seal(refused); code != api.ErrKey || b != nil || w.Next() != 1<<31 || w.Used() != 3 {
			t.Error(b, code, w.Next(), w.Used())
		}
	}
	// A way that can't seal any more opens.
	b, _ := wayAt(7, 1).Seal(l)
	if _, _, code := w.Open(b); code != api.OK || w.Used() != 4 || w.High(5) != 7 || w.Next() != 1<<31 {
		t.Error(code, w.Used(), w.High(5), w.Next())
	}
}

// What ciphers by each bit of the index is its own.
func TestSealByEachBitOfTheIndex(t *testing.T) {
	l := []api.Ctrl{{Kind: api.KindPli, Source: 5, Media: 6}}
	seen := map[string]bool{}
	for bit := range 31 {
		b, code := wayAt(1<<bit, 1).Seal(l)
		if code != api.OK {
			t.Fatal(bit, code)
		}
		seen[string(b[8:12])] = true
		packets, _, code := wayAt(0, 1).Open(b)
		if code != api.OK || len(packets) != 1 || packets[0].Media != 6 {
			t.Error(bit, packets, code)
		}
	}
	if len(seen) != 31 {
		t.Error("of 31 indices only so many cipher unlike:", len(seen))
	}
}

// A window that is told is a copy: marking it doesn't turn the way's, unless it is put back.
func TestWindowsArePutBackAsCopies(t *testing.T) {
	w := wayAt(0, 10)
	open := func(index int64) {
		b, _ := wayAt(index, 1).Seal([]api.Ctrl{{Kind: api.KindRR, Source: 5}})
		if _, _, code := w.Open(b); code != api.OK {
			t.Fatal(index, code)
		}
	}
	open(100)
	seen, was := w.windows[5], w.windows[5]
	seen.Mark(200)
	if w.High(5) != 100 {
		t.Error(w.High(5))
	}
	open(300)
	if w.High(5) != 300 || was.High() != 100 {
		t.Error(w.High(5), was.High())
	}
}

package srtp

import (
	"testing"

	"tenaille/api"
	"tenaille/window"
)

// To get near the greatest index by packets alone would take billions of them; so the window is put there.

// wayAt is a way whose source 5 has a highest index.
func wayAt(high int64, limit int) *Way {
	w := New(api.Master{Key: [16]byte{1}, Salt: [14]byte{2}}, limit)
	var seen window.Window
	seen.Mark(high)
	w.windows[5] = seen
	return w
}

// sealedAt is the ciphered packet of an index, which may be too great for one.
func sealedAt(t *testing.T, index int64) []byte {
	t.Helper()
	w := wayAt(0, 1)
	b, code := w.Seal(api.Rtp{Seq: uint16(index), Source: 5, Payload: []byte("x")}, index%api.MaxIndex)
	if code != api.OK {
		t.Fatal(index, code)
	}
	return b
}

func TestOpenNearTheGreatestIndex(t *testing.T) {
	const most = api.MaxIndex - 1
	for _, high := range []int64{most - 32768, most - 32767, most - 1000, most - 64, most - 1, most} {
		for _, by := range []int64{1, 2, 63, 64, 1000, 32767, 32768, -1, -62, -63} {
			index := high + by
			w := wayAt(high, 10)
			p, i, code := w.Open(sealedAt(t, index))
			if index > most {
				if code != api.ErrForm || i != 0 || p.Source != 0 || w.Used() != 0 || w.High(5) != high {
					t.Error(high, by, i, code, w.Used(), w.High(5))
				}
				continue
			}
			if code != api.OK || i != index || string(p.Payload) != "x" || w.Used() != 1 || w.High(5) != max(high, index) {
				t.Error(high, by, i, code, w.Used(), w.High(5))
			}
		}
		w := wayAt(high, 10)
		if _, _, code := w.Open(sealedAt(t, high)); code != api.ErrOld {
			t.Error(high, code)
		}
	}
}

// An index that is too great is told behind a key that is used up, and ahead of a tag that isn't right.
func TestOpenTellsTheIndexInItsOrder(t *testing.T) {
	b := sealedAt(t, api.MaxIndex)
	if _, _, code := wayAt(api.MaxIndex-1, 0).Open(b); code != api.ErrKey {
		t.Error(code)
	}
	b[len(b)-1] ^= 1
	if _, _, code := wayAt(api.MaxIndex-1, 1).Open(b); code != api.ErrForm {
		t.Error(code)
	}
	// A round below, the same bytes are of an index that may be.
	if _, _, code := wayAt(api.MaxIndex-1<<16-1, 1).Open(b); code != api.ErrAuth {
		t.Error(code)
	}
}

// A window that is told is a copy: marking it doesn't turn the way's, unless it is put back.
func TestWindowsArePutBackAsCopies(t *testing.T) {
	w := wayAt(100, 10)
	seen := w.windows[5]
	seen.Mark(200)
	if w.High(5) != 100 {
		t.Error(w.High(5))
	}
	was := w.windows[5]
	if _, _, code := w.Open(sealedAt(t, 300)); code != api.OK || w.High(5) != 300 || was.High() != 100 {
		t.Error(code, w.High(5), was.High())
	}
}

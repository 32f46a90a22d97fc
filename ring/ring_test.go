package ring_test

import (
	"bytes"
	"math"
	"math/rand"
	"runtime"
	"slices"
	"testing"

	"tenaille/api"
	"tenaille/ring"
)

// model is a ring by the chapter's words: packets without an order, the least one sought each time.
type model struct {
	packets, bytes int
	there          map[int64][]byte
}

func newModel(packets, bytes int) *model {
	return &model{packets: packets, bytes: bytes, there: map[int64][]byte{}}
}

func (m *model) least() int64 {
	least := int64(math.MaxInt64)
	for i := range m.there {
		least = min(least, i)
	}
	return least
}

func (m *model) size() int {
	n := 0
	for _, b := range m.there {
		n += len(b)
	}
	return n
}

func (m *model) put(i int64, b []byte) api.Errno {
	if i < 0 {
		return api.ErrArg
	}
	if len(b) > m.bytes {
		return api.ErrQuota
	}
	if _, there := m.there[i]; there {
		return api.ErrOld
	}
	if len(m.there) == m.packets && m.least() > i {
		return api.ErrOld
	}
	m.there[i] = bytes.Clone(b)
	for len(m.there) > m.packets || m.size() > m.bytes {
		delete(m.there, m.least())
	}
	return api.OK
}

func (m *model) forget(i int64) int {
	n := 0
	for len(m.there) > 0 && m.least() < i {
		delete(m.there, m.least())
		n++
	}
	return n
}

func (m *model) indices() []int64 {
	var all []int64
	for i := range m.there {
		all = append(all, i)
	}
	slices.Sort(all)
	return all
}

// compare holds all that a ring tells against the model.
func compare(t *testing.T, r *ring.Ring, m *model) {
	t.Helper()
	all := m.indices()
	if got := r.Indices(); !slices.Equal(got, all) {
		t.Fatalf("indices %v; want %v", got, all)
	}
	if r.Len() != len(all) || r.Size() != m.size() {
		t.Fatalf("%d packets of %d bytes; want %d of %d", r.Len(), r.Size(), len(all), m.size())
	}
	if r.Len() > m.packets || r.Size() > m.bytes {
		t.Fatalf("%d packets of %d bytes; there is room for %d of %d", r.Len(), r.Size(), m.packets, m.bytes)
	}
	for _, i := range all {
		if b, ok := r.Get(i); !ok || !bytes.Equal(b, m.there[i]) {
			t.Fatalf("get %d: %v, %v; want %v", i, b, ok, m.there[i])
		}
	}
}

func putBoth(t *testing.T, r *ring.Ring, m *model, i int64, b []byte) {
	t.Helper()
	was := r.Indices()
	if got, want := r.Put(i, b), m.put(i, b); got != want {
		t.Fatalf("put %d of %d bytes to %v: %d; want %d", i, len(b), was, got, want)
	}
	compare(t, r, m)
}

func forgetBoth(t *testing.T, r *ring.Ring, m *model, i int64) {
	t.Helper()
	was := r.Indices()
	if got, want := r.Forget(i), m.forget(i); got != want {
		t.Fatalf("forget below %d of %v: %d; want %d", i, was, got, want)
	}
	compare(t, r, m)
}

// some is so many bytes that tell whose they are.
func some(i int64, n int) []byte {
	b := make([]byte, n)
	for at := range b {
		b[at] = byte(i*31 + int64(at) + 1)
	}
	return b
}

// item is an index and how many bytes it has.
type item struct {
	i int64
	n int
}

// filled is a ring to which all of these could be put.
func filled(t *testing.T, packets, room int, items ...item) *ring.Ring {
	t.Helper()
	r := ring.New(packets, room)
	for _, c := range items {
		if e := r.Put(c.i, some(c.i, c.n)); e != api.OK {
			t.Fatalf("put %d of %d bytes: %d", c.i, c.n, e)
		}
	}
	return r
}

// expect looks whether a ring has just these packets.
func expect(t *testing.T, r *ring.Ring, items ...item) {
	t.Helper()
	var all []int64
	size := 0
	for _, c := range items {
		all = append(all, c.i)
		size += c.n
		if b, ok := r.Get(c.i); !ok || !bytes.Equal(b, some(c.i, c.n)) {
			t.Fatalf("get %d: %v, %v; want %d bytes", c.i, b, ok, c.n)
		}
	}
	if got := r.Indices(); !slices.Equal(got, all) {
		t.Fatalf("indices %v; want %v", got, all)
	}
	if r.Len() != len(items) || r.Size() != size {
		t.Fatalf("%d packets of %d bytes; want %d of %d", r.Len(), r.Size(), len(items), size)
	}
}

// edges: numbers at the edges of 8, 16, 32, 48 and 64 bits, none below 0.
func edges() []int64 {
	return []int64{0, 1, 2, 127, 128, 255, 256, 65535, 65536, 1<<31 - 1, 1 << 31, 1<<32 - 1, 1 << 32, 1<<48 - 1, 1 << 48, math.MaxInt64 - 1, math.MaxInt64}
}

// P19.1: New.

func TestNewHasNothing(t *testing.T) {
	for _, packets := range []int{1, 2, 1000, math.MaxInt32, math.MaxInt} {
		for _, room := range []int{0, 1, 1000, math.MaxInt32, math.MaxInt} {
			r := ring.New(packets, room)
			if r == nil {
				t.Fatalf("New(%d, %d) is nil", packets, room)
			}
			expect(t, r)
			if b, ok := r.Get(0); len(b) != 0 || ok {
				t.Errorf("New(%d, %d): get 0: %v, %v", packets, room, b, ok)
			}
			if n := r.Forget(math.MaxInt64); n != 0 {
				t.Errorf("New(%d, %d): forgot %d", packets, room, n)
			}
		}
	}
}

func TestNewThatMayNotBe(t *testing.T) {
	for _, c := range []struct{ packets, bytes int }{
		{0, 0}, {0, 1}, {0, math.MaxInt}, {-1, 0}, {-1, 10}, {math.MinInt, 10}, {math.MinInt, math.MinInt},
		{1, -1}, {2, -1}, {10, math.MinInt}, {math.MaxInt, -1}, {0, -1}, {-1, -1},
	} {
		if ring.New(c.packets, c.bytes) != nil {
			t.Errorf("New(%d, %d) isn't nil", c.packets, c.bytes)
		}
	}
}

// Room that no machine has isn't asked for ahead.
func TestRoomWithoutAnEnd(t *testing.T) {
	r := filled(t, math.MaxInt, math.MaxInt, item{3, 5}, item{1, 0}, item{math.MaxInt64, 1200})
	expect(t, r, item{1, 0}, item{3, 5}, item{math.MaxInt64, 1200})
}

// P19.1: of nil.

func TestOfNil(t *testing.T) {
	var r *ring.Ring
	for _, i := range append(edges(), -1, math.MinInt64) {
		for _, b := range [][]byte{nil, {}, {1}, make([]byte, 2000)} {
			if e := r.Put(i, b); e != api.ErrArg {
				t.Errorf("put %d of %d bytes: %d", i, len(b), e)
			}
		}
		if b, ok := r.Get(i); b != nil || ok {
			t.Errorf("get %d: %v, %v", i, b, ok)
		}
		if n := r.Forget(i); n != 0 {
			t.Errorf("forget %d: %d", i, n)
		}
	}
	if r.Len() != 0 || r.Size() != 0 || len(r.Indices()) != 0 {
		t.Errorf("%d, %d, %v", r.Len(), r.Size(), r.Indices())
	}
}

// P19.1: Put.

func TestPutKeepsEach(t *testing.T) {
	r, m := ring.New(100, 10000), newModel(100, 10000)
	for n, i := range edges() {
		putBoth(t, r, m, i, some(i, n*7))
	}
	r, m = ring.New(100, 10000), newModel(100, 10000)
	for n, i := range slices.Backward(edges()) {
		putBoth(t, r, m, i, some(i, n*7))
	}
}

// In whichever order they come, they stand by their indices.
func TestEachOrderOfSix(t *testing.T) {
	list := []int64{0, 2, 3, 7, 1 << 40, math.MaxInt64}
	var order func(done []int64)
	order = func(done []int64) {
		r, m := ring.New(6, 100), newModel(6, 100)
		for _, i := range done {
			putBoth(t, r, m, i, some(i, int(i%10)))
		}
		for _, i := range list {
			if !slices.Contains(done, i) {
				order(append(done[:len(done):len(done)], i))
			}
		}
	}
	order(nil)
}

func TestPutBelowZero(t *testing.T) {
	for _, i := range []int64{-1, -2, -65536, -1 << 32, math.MinInt64 + 1, math.MinInt64} {
		r := filled(t, 2, 10, item{4, 3})
		// It is told ahead of bytes that are too many.
		for _, n := range []int{0, 1, 10, 11, 2000} {
			if e := r.Put(i, make([]byte, n)); e != api.ErrArg {
				t.Errorf("put %d of %d bytes: %d", i, n, e)
			}
		}
		expect(t, r, item{4, 3})
		r.Put(5, nil)
		if e := r.Put(i, nil); e != api.ErrArg {
			t.Errorf("put %d to a full one: %d", i, e)
		}
	}
}

func TestPutMoreBytesThanRoom(t *testing.T) {
	for _, room := range []int{0, 1, 2, 10, 1199, 1200, 70000} {
		r := ring.New(3, room)
		for _, n := range []int{room + 1, room + 2, 2*room + 1, room + 65536} {
			if e := r.Put(7, make([]byte, n)); e != api.ErrQuota {
				t.Errorf("%d bytes to room for %d: %d", n, room, e)
			}
			expect(t, r)
		}
		if e := r.Put(7, some(7, room)); e != api.OK {
			t.Errorf("%d bytes to room for as many: %d", room, e)
		}
		expect(t, r, item{7, room})
	}
}

// It is told ahead of an index that is there, or less than all of a full one.
func TestTooManyBytesAreToldAheadOfOld(t *testing.T) {
	r := filled(t, 2, 10, item{4, 3}, item{6, 4})
	for _, i := range []int64{0, 3, 4, 5, 6, 7} {
		if e := r.Put(i, make([]byte, 11)); e != api.ErrQuota {
			t.Errorf("put %d: %d", i, e)
		}
		expect(t, r, item{4, 3}, item{6, 4})
	}
}

func TestPutWhatIsThere(t *testing.T) {
	for _, packets := range []int{3, 4} {
		for _, room := range []int{9, 10, 100} {
			r := filled(t, packets, room, item{2, 3}, item{4, 0}, item{6, 6})
			for _, i := range []int64{2, 4, 6} {
				for _, n := range []int{0, 1, 3, 6, room} {
					if e := r.Put(i, make([]byte, n)); e != api.ErrOld {
						t.Errorf("put %d of %d bytes again: %d", i, n, e)
					}
					expect(t, r, item{2, 3}, item{4, 0}, item{6, 6})
				}
			}
		}
	}
}

// What went may come again.
func TestPutWhatWent(t *testing.T) {
	r := filled(t, 2, 10, item{2, 1}, item{4, 1})
	r.Forget(4)
	if e := r.Put(2, some(2, 5)); e != api.OK {
		t.Errorf("behind Forget: %d", e)
	}
	expect(t, r, item{2, 5}, item{4, 1})
	r = filled(t, 9, 10, item{2, 4}, item{4, 9})
	expect(t, r, item{4, 9})
	if e := r.Put(2, some(2, 1)); e != api.OK {
		t.Errorf("behind what had no room: %d", e)
	}
	expect(t, r, item{2, 1}, item{4, 9})
}

func TestPutToAFullOne(t *testing.T) {
	for packets := 1; packets <= 20; packets++ {
		var items []item
		for n := range packets {
			items = append(items, item{int64(10 + 2*n), n})
		}
		for i := int64(0); i < int64(12+2*packets); i++ {
			r, m := filled(t, packets, 1000, items...), newModel(packets, 1000)
			for _, c := range items {
				m.put(c.i, some(c.i, c.n))
			}
			putBoth(t, r, m, i, some(i, 3))
			if _, ok := r.Get(10); i > 10 && i%2 == 1 && ok {
				t.Errorf("put %d among %d: the least is there still", i, packets)
			}
		}
	}
}

// All have greater indices, and there is room for just one more packet: it is kept.
func TestTheLeastWhereThereIsRoom(t *testing.T) {
	r := filled(t, 3, 10, item{4, 3}, item{6, 4})
	if e := r.Put(1, some(1, 3)); e != api.OK {
		t.Errorf("%d", e)
	}
	expect(t, r, item{1, 3}, item{4, 3}, item{6, 4})
	if e := r.Put(0, nil); e != api.ErrOld {
		t.Errorf("to the full one: %d", e)
	}
	expect(t, r, item{1, 3}, item{4, 3}, item{6, 4})
	// To a full one without room for its bytes it is ErrOld too, not OK.
	if e := r.Put(0, make([]byte, 10)); e != api.ErrOld {
		t.Errorf("to the full one, of 10 bytes: %d", e)
	}
	expect(t, r, item{1, 3}, item{4, 3}, item{6, 4})
}

// As many go as must, and no more.
func TestWhatGoesForBytes(t *testing.T) {
	for n, want := range [][]item{
		{{1, 1}, {2, 2}, {3, 0}, {4, 3}, {5, 4}, {9, 0}},
		{{2, 2}, {3, 0}, {4, 3}, {5, 4}, {9, 1}},
		{{3, 0}, {4, 3}, {5, 4}, {9, 2}},
		{{3, 0}, {4, 3}, {5, 4}, {9, 3}},
		{{5, 4}, {9, 4}},
		{{5, 4}, {9, 5}},
		{{5, 4}, {9, 6}},
		{{9, 7}}, {{9, 8}}, {{9, 9}}, {{9, 10}},
	} {
		r := filled(t, 10, 10, item{1, 1}, item{2, 2}, item{3, 0}, item{4, 3}, item{5, 4})
		if e := r.Put(9, some(9, n)); e != api.OK {
			t.Errorf("of %d bytes: %d", n, e)
		}
		expect(t, r, want...)
	}
}

// The new one goes itself, and with it those below, if the greater ones leave it no room.
func TestTheNewOneGoesItself(t *testing.T) {
	for _, c := range []struct {
		i    int64
		n    int
		want []item
	}{
		{4, 1, []item{{5, 4}, {7, 6}}},
		{4, 0, []item{{4, 0}, {5, 4}, {7, 6}}},
		{4, 10, []item{{5, 4}, {7, 6}}},
		{6, 4, []item{{6, 4}, {7, 6}}},
		{6, 5, []item{{7, 6}}},
		{6, 0, []item{{5, 4}, {6, 0}, {7, 6}}},
		{6, 1, []item{{6, 1}, {7, 6}}},
		{0, 1, []item{{5, 4}, {7, 6}}},
		{8, 4, []item{{7, 6}, {8, 4}}},
		{8, 5, []item{{8, 5}}},
	} {
		r := filled(t, 3, 10, item{5, 4}, item{7, 6})
		if e := r.Put(c.i, some(c.i, c.n)); e != api.OK {
			t.Errorf("put %d of %d bytes: %d", c.i, c.n, e)
		}
		expect(t, r, c.want...)
	}
}

// Both rooms may lack: for one packet the least goes, for its bytes more of them.
func TestPacketsAndBytesLack(t *testing.T) {
	r := filled(t, 3, 10, item{1, 1}, item{5, 5}, item{6, 4})
	r.Put(3, some(3, 2))
	expect(t, r, item{5, 5}, item{6, 4})
	r = filled(t, 3, 10, item{1, 1}, item{5, 5}, item{6, 4})
	r.Put(3, some(3, 1))
	expect(t, r, item{3, 1}, item{5, 5}, item{6, 4})
	r = filled(t, 3, 10, item{1, 1}, item{5, 5}, item{6, 4})
	r.Put(7, some(7, 7))
	expect(t, r, item{7, 7})
	r = filled(t, 3, 10, item{1, 1}, item{5, 5}, item{6, 4})
	r.Put(7, nil)
	expect(t, r, item{5, 5}, item{6, 4}, item{7, 0})
}

// Packets without bytes take room for packets alone.
func TestPacketsWithoutBytes(t *testing.T) {
	r, m := ring.New(4, 0), newModel(4, 0)
	for _, i := range []int64{5, 9, 7, 8, 5, 4, 6, 10, 1, 100, 99, 98} {
		putBoth(t, r, m, i, nil)
		putBoth(t, r, m, i+20, []byte{})
		if e := r.Put(i, []byte{0}); e != api.ErrQuota {
			t.Errorf("put %d of a byte: %d", i, e)
		}
		compare(t, r, m)
	}
}

func TestRoomForOnePacket(t *testing.T) {
	r, m := ring.New(1, 3), newModel(1, 3)
	for _, i := range []int64{5, 5, 4, 6, 0, 7, math.MaxInt64, 8, math.MaxInt64} {
		putBoth(t, r, m, i, some(i, int(i%4)))
	}
	expect(t, r, item{math.MaxInt64, 3})
}

// P19.2: Get, Len, Size, Indices.

func TestGetWhatIsNotThere(t *testing.T) {
	r := filled(t, 10, 100, item{2, 3}, item{5, 0}, item{6, 4}, item{1 << 40, 9})
	for _, i := range []int64{math.MinInt64, -6, -2, -1, 0, 1, 3, 4, 7, 258, 1<<40 - 1, 1<<40 + 1, 1 << 41, 1<<32 + 2, 1<<48 + 6, math.MaxInt64} {
		if b, ok := r.Get(i); b != nil || ok {
			t.Errorf("get %d: %v, %v", i, b, ok)
		}
	}
	if b, ok := r.Get(5); len(b) != 0 || !ok {
		t.Errorf("get what has no bytes: %v, %v", b, ok)
	}
}

func TestEachIsFoundAmongAnyNumber(t *testing.T) {
	for n := range 40 {
		r := ring.New(100, 1000)
		for k := range int64(n) {
			r.Put(3*k+1, some(k, int(k%5)+1))
		}
		for k := range int64(n + 1) {
			b, ok := r.Get(3*k + 1)
			if there := k < int64(n); ok != there || there && !bytes.Equal(b, some(k, int(k%5)+1)) {
				t.Fatalf("of %d: get %d: %v, %v", n, 3*k+1, b, ok)
			}
			for _, i := range []int64{3 * k, 3*k - 1} {
				if b, ok := r.Get(i); ok || b != nil {
					t.Fatalf("of %d: get %d: %v, %v", n, i, b, ok)
				}
			}
		}
	}
}

func TestToAskTurnsNothing(t *testing.T) {
	r := filled(t, 3, 10, item{2, 3}, item{5, 0}, item{6, 4})
	for range 3 {
		r.Get(2)
		r.Get(3)
		r.Len()
		r.Size()
		r.Indices()
		r.Forget(2)
		expect(t, r, item{2, 3}, item{5, 0}, item{6, 4})
	}
}

// All bytes are kept, whatever they are, up to long ones.
func TestBytesOfAllLengths(t *testing.T) {
	r := ring.New(10, 1<<20)
	for n := range 1300 {
		r.Put(int64(n), some(int64(n), n))
		if b, ok := r.Get(int64(n)); !ok || !bytes.Equal(b, some(int64(n), n)) {
			t.Fatalf("%d bytes: %d, %v", n, len(b), ok)
		}
	}
	long := some(9, 1<<20)
	if e := r.Put(2000, long); e != api.OK {
		t.Fatal(e)
	}
	if b, ok := r.Get(2000); !ok || !bytes.Equal(b, long) || r.Len() != 1 || r.Size() != 1<<20 {
		t.Errorf("%d bytes, %v, %d, %d", len(b), ok, r.Len(), r.Size())
	}
}

// P19.3: Forget.

func TestForget(t *testing.T) {
	items := []item{{0, 2}, {1, 3}, {5, 0}, {6, 4}, {1 << 32, 1}, {1 << 48, 5}, {math.MaxInt64, 6}}
	for _, c := range []struct {
		i    int64
		gone int
	}{
		{math.MinInt64, 0}, {-1, 0}, {0, 0}, {1, 1}, {2, 2}, {4, 2}, {5, 2}, {6, 3}, {7, 4}, {1 << 31, 4},
		{1 << 32, 4}, {1<<32 + 1, 5}, {1<<48 - 1, 5}, {1 << 48, 5}, {1<<48 + 1, 6}, {math.MaxInt64 - 1, 6}, {math.MaxInt64, 6},
	} {
		r := filled(t, 10, 100, items...)
		if n := r.Forget(c.i); n != c.gone {
			t.Errorf("below %d: %d; want %d", c.i, n, c.gone)
		}
		expect(t, r, items[c.gone:]...)
		if n := r.Forget(c.i); n != 0 {
			t.Errorf("below %d again: %d", c.i, n)
		}
		expect(t, r, items[c.gone:]...)
		for _, was := range items[:c.gone] {
			if b, ok := r.Get(was.i); b != nil || ok {
				t.Errorf("below %d: %d is there still", c.i, was.i)
			}
		}
	}
}

// What is forgotten leaves room for packets, and for bytes.
func TestForgetLeavesRoom(t *testing.T) {
	r := filled(t, 3, 9, item{1, 3}, item{2, 3}, item{3, 3})
	if n := r.Forget(3); n != 2 {
		t.Fatal(n)
	}
	r.Put(1, some(1, 4))
	r.Put(2, some(2, 2))
	expect(t, r, item{1, 4}, item{2, 2}, item{3, 3})
	if n := r.Forget(100); n != 3 {
		t.Fatal(n)
	}
	expect(t, r)
	r.Put(0, some(0, 9))
	expect(t, r, item{0, 9})
}

// P19.4: never are there more packets, or bytes, than room; all held against the model.

// act is something that may be done to a ring: forget, if n is below 0, else put.
type act struct {
	i int64
	n int
}

func (a act) do(t *testing.T, r *ring.Ring, m *model) {
	t.Helper()
	if a.n < 0 {
		forgetBoth(t, r, m, a.i)
		return
	}
	putBoth(t, r, m, a.i, some(a.i, a.n))
}

func TestAllShortRuns(t *testing.T) {
	var acts []act
	for i := range int64(4) {
		for n := range 4 {
			acts = append(acts, act{i, n})
		}
	}
	acts = append(acts, act{1, -1}, act{2, -1}, act{-1, 0})
	var run func(packets, room int, done []act, depth int)
	run = func(packets, room int, done []act, depth int) {
		r, m := ring.New(packets, room), newModel(packets, room)
		for _, a := range done {
			a.do(t, r, m)
		}
		if depth == 0 {
			return
		}
		for _, a := range acts {
			run(packets, room, append(done[:len(done):len(done)], a), depth-1)
		}
	}
	for packets := 1; packets <= 3; packets++ {
		for room := range 5 {
			run(packets, room, nil, 3)
		}
	}
	run(2, 3, nil, 4)
	run(3, 4, nil, 4)
}

func TestRunsByChance(t *testing.T) {
	for seed := range int64(300) {
		rnd := rand.New(rand.NewSource(seed))
		packets, room := 1+rnd.Intn(1+rnd.Intn(60)), rnd.Intn(1+rnd.Intn(400))
		r, m := ring.New(packets, room), newModel(packets, room)
		at := rnd.Int63n(1 << (1 + rnd.Intn(62)))
		for range 400 {
			switch rnd.Intn(12) {
			case 0:
				forgetBoth(t, r, m, at-rnd.Int63n(100))
			case 1:
				putBoth(t, r, m, rnd.Int63()-1<<61, some(at, rnd.Intn(30)))
			case 2:
				putBoth(t, r, m, at-rnd.Int63n(100), some(at, rnd.Intn(room+2)))
			case 3, 4:
				putBoth(t, r, m, at-rnd.Int63n(100), some(at, rnd.Intn(12)))
			default:
				at += 1 + rnd.Int63n(3)
				putBoth(t, r, m, at, some(at, rnd.Intn(12)))
			}
		}
	}
}

// A great ring through which many packets go, each of which pushes one out.
func TestManyPackets(t *testing.T) {
	const room, all = 50_000, 500_000
	r := ring.New(room, 1<<30)
	for i := range int64(all) {
		if e := r.Put(i, []byte{byte(i), byte(i >> 8)}); e != api.OK {
			t.Fatalf("put %d: %d", i, e)
		}
		if n := min(int(i)+1, room); r.Len() != n || r.Size() != 2*n {
			t.Fatalf("behind %d: %d packets of %d bytes", i, r.Len(), r.Size())
		}
	}
	for n, i := range r.Indices() {
		if b, ok := r.Get(i); i != int64(all-room+n) || !ok || !bytes.Equal(b, []byte{byte(i), byte(i >> 8)}) {
			t.Fatalf("%d stands at %d: %v, %v", i, n, b, ok)
		}
	}
	for i := int64(all - room + 1); i <= all; i++ {
		if n := r.Forget(i); n != 1 || r.Len() != int(all-i) {
			t.Fatalf("forget below %d: %d, %d are left", i, n, r.Len())
		}
	}
}

// Rule 5: what is handed in is neither changed nor kept, and what is told is new.

func TestWhatIsHandedInIsNotKept(t *testing.T) {
	r := ring.New(3, 10)
	whole := []byte("abcdefgh")
	b := whole[:4]
	for i := range int64(5) {
		r.Put(i, b)
	}
	r.Forget(3)
	if string(whole) != "abcdefgh" {
		t.Errorf("handed in: now %q", whole)
	}
	clear(whole)
	for _, i := range []int64{3, 4} {
		if got, ok := r.Get(i); string(got) != "abcd" || !ok {
			t.Errorf("get %d: %q, %v", i, got, ok)
		}
	}
}

func TestWhatIsToldIsNew(t *testing.T) {
	r := filled(t, 3, 30, item{1, 5}, item{2, 6}, item{3, 7})
	for range 2 {
		for i := int64(1); i <= 3; i++ {
			a, _ := r.Get(i)
			b, _ := r.Get(i)
			clear(a)
			clear(a[:cap(a)])
			if !bytes.Equal(b, some(i, int(i)+4)) {
				t.Errorf("two answers of %d share", i)
			}
			clear(b[:cap(b)])
		}
		a, b := r.Indices(), r.Indices()
		clear(a[:cap(a)])
		if !slices.Equal(b, []int64{1, 2, 3}) {
			t.Errorf("two lists of indices share: %v", b)
		}
		clear(b[:cap(b)])
		expect(t, r, item{1, 5}, item{2, 6}, item{3, 7})
	}
	// What was told stays, when the packet goes.
	b, _ := r.Get(1)
	l := r.Indices()
	r.Forget(3)
	r.Put(8, some(8, 5))
	if !bytes.Equal(b, some(1, 5)) || !slices.Equal(l, []int64{1, 2, 3}) {
		t.Errorf("%v, %v", b, l)
	}
}

// The bytes of what went aren't kept anywhere, though little is put behind them.
func TestWhatWentIsNotKept(t *testing.T) {
	const each, count = 1 << 18, 64
	inUse := func() uint64 {
		var m runtime.MemStats
		runtime.GC()
		runtime.ReadMemStats(&m)
		return m.HeapAlloc
	}
	forgotten, pushed, small := ring.New(count, each*count), ring.New(count, each*count), ring.New(count, each*count)
	empty := inUse()
	b := make([]byte, each)
	for i := range int64(count) {
		forgotten.Put(i, b)
		pushed.Put(i, b)
		small.Put(i, b)
	}
	if full := inUse(); full < empty+3*each*count {
		t.Fatalf("%d bytes in use, %d ahead", full, empty)
	}
	forgotten.Forget(count - 1)
	for i := range int64(count) {
		pushed.Put(count+i, nil)
	}
	small.Put(count, b[:each])
	small.Forget(count)
	if now := inUse(); now > empty+each*count/2 {
		t.Errorf("%d bytes in use, %d ahead", now, empty)
	}
	if forgotten.Len() != 1 || pushed.Size() != 0 || small.Len() != 1 {
		t.Errorf("%d, %d, %d", forgotten.Len(), pushed.Size(), small.Len())
	}
	runtime.KeepAlive(b)
}

// Rule 6: rings don't disturb each other, and the same done to two makes the same.

func TestRingsDoNotShare(t *testing.T) {
	a := filled(t, 2, 10, item{1, 3}, item{2, 4})
	b := filled(t, 2, 10, item{1, 3}, item{2, 4})
	a.Put(3, some(3, 5))
	a.Forget(3)
	expect(t, b, item{1, 3}, item{2, 4})
	b.Put(9, some(9, 1))
	expect(t, a, item{3, 5})
	expect(t, b, item{2, 4}, item{9, 1})
}

func TestTheSameDoneMakesTheSame(t *testing.T) {
	a, b := ring.New(5, 20), ring.New(5, 20)
	rnd := rand.New(rand.NewSource(7))
	for range 2000 {
		i, n := rnd.Int63n(50), rnd.Intn(9)
		if x, y := a.Put(i, some(i, n)), b.Put(i, some(i, n)); x != y {
			t.Fatalf("put %d: %d and %d", i, x, y)
		}
		if rnd.Intn(10) == 0 && a.Forget(i) != b.Forget(i) {
			t.Fatalf("forget %d", i)
		}
		if !slices.Equal(a.Indices(), b.Indices()) || a.Size() != b.Size() {
			t.Fatalf("%v and %v", a.Indices(), b.Indices())
		}
	}
}

// The chapter's examples.
func TestExamples(t *testing.T) {
	r := ring.New(2, 10)
	for i := int64(1); i <= 3; i++ {
		if e := r.Put(i, some(i, 4)); e != api.OK {
			t.Errorf("put %d: %d", i, e)
		}
	}
	expect(t, r, item{2, 4}, item{3, 4})
	if b, ok := r.Get(1); b != nil || ok {
		t.Errorf("get 1: %v, %v", b, ok)
	}
}

package window_test

import (
	"math"
	"math/rand"
	"testing"

	"tenaille/api"
	"tenaille/window"
)

const width = 64

// model is a window by the chapter's words, which keeps every index that ever was there.
type model struct {
	high  int64
	there map[int64]bool
}

func newModel() *model {
	return &model{high: -1, there: map[int64]bool{}}
}

// lowest: the least of the window's indices.
func (m *model) lowest() int64 {
	return max(m.high-(width-1), 0)
}

func (m *model) fresh(i int64) bool {
	return i >= 0 && (i > m.high || i >= m.lowest() && !m.there[i])
}

func (m *model) mark(i int64) api.Errno {
	if !m.fresh(i) {
		return api.ErrOld
	}
	m.there[i] = true
	m.high = max(m.high, i)
	return api.OK
}

func (m *model) count() int {
	n := 0
	for i := range m.there {
		if i >= m.lowest() {
			n++
		}
	}
	return n
}

// compare: does the window tell what the model does, of the indices around the window and of the edges?
func compare(t *testing.T, w *window.Window, m *model) {
	t.Helper()
	if w.High() != m.high || w.Count() != m.count() {
		t.Fatalf("the highest one is %d of %d; want %d of %d", w.High(), w.Count(), m.high, m.count())
	}
	for far := int64(-2*width - 2); far <= 2*width; far++ {
		i := m.high + far
		if far > 0 && i < m.high { // there is no number above
			break
		}
		if w.Fresh(i) != m.fresh(i) {
			t.Fatalf("%d, the highest one being %d: fresh is %v", i, m.high, w.Fresh(i))
		}
	}
	for _, i := range edges() {
		if w.Fresh(i) != m.fresh(i) {
			t.Fatalf("%d, the highest one being %d: fresh is %v", i, m.high, w.Fresh(i))
		}
	}
}

// markBoth marks an index in the window and in the model.
func markBoth(t *testing.T, w *window.Window, m *model, i int64) {
	t.Helper()
	high := m.high
	if got, want := w.Mark(i), m.mark(i); got != want {
		t.Fatalf("mark %d, the highest one being %d: %d; want %d", i, high, got, want)
	}
}

// edges: indices at the edges of what a window and a number may be.
func edges() []int64 {
	return []int64{
		math.MinInt64, math.MinInt64 + 1, -1 << 48, -width - 1, -width, -2, -1, 0, 1, 2, width - 1, width, width + 1,
		2*width - 1, 2 * width, 65535, 65536, math.MaxInt32, 1 << 32, api.MaxIndex - 1, api.MaxIndex, math.MaxInt64 - width, math.MaxInt64 - 1, math.MaxInt64,
	}
}

// marked: a window in which these were there.
func marked(t *testing.T, list ...int64) *window.Window {
	t.Helper()
	w := &window.Window{}
	for _, i := range list {
		if e := w.Mark(i); e != api.OK {
			t.Fatalf("mark %d: %d", i, e)
		}
	}
	return w
}

// P8.1: Fresh, Mark, High.

func TestZeroWindowHasHadNone(t *testing.T) {
	var w window.Window
	if w.High() != -1 || w.Count() != 0 {
		t.Error(w.High(), w.Count())
	}
	for _, i := range edges() {
		if got := w.Fresh(i); got != (i >= 0) {
			t.Errorf("%d: fresh is %v", i, got)
		}
	}
	compare(t, &w, newModel())
}

func TestFirstMarkIsTheHighest(t *testing.T) {
	for _, i := range edges() {
		if i < 0 {
			continue
		}
		w := marked(t, i)
		if w.High() != i || w.Count() != 1 || w.Fresh(i) {
			t.Errorf("%d: the highest one is %d of %d, fresh is %v", i, w.High(), w.Count(), w.Fresh(i))
		}
	}
}

func TestBelowZeroIsNeverFresh(t *testing.T) {
	for _, high := range []int64{-1, 0, 1, 62, 63, 64, 1 << 48, math.MaxInt64} {
		w := &window.Window{}
		if high >= 0 {
			w = marked(t, high)
		}
		was := *w
		for _, i := range []int64{-1, -2, -63, -64, -65, -1 << 16, -1 << 48, math.MinInt64 + 1, math.MinInt64} {
			if e := w.Mark(i); w.Fresh(i) || e != api.ErrOld || *w != was {
				t.Errorf("%d, the highest one being %d: fresh is %v, mark %d", i, high, w.Fresh(i), e)
			}
		}
	}
}

// The 64 indices up to the highest one are the window's: the one 63 below it is the last.
func TestFreshAsFarAsTheWindowGoes(t *testing.T) {
	for _, high := range []int64{0, 1, 62, 63, 64, 65, 100, 65535, 1 << 32, 1 << 48, math.MaxInt64 - 1, math.MaxInt64} {
		for below := int64(0); below <= 200; below++ {
			w := marked(t, high)
			i := high - below
			want := below > 0 && below < width && i >= 0
			if got := w.Fresh(i); got != want {
				t.Errorf("%d, %d below the highest one: fresh is %v", i, below, got)
			}
			e := w.Mark(i)
			if want != (e == api.OK) || !want && e != api.ErrOld || w.High() != high {
				t.Errorf("%d, %d below the highest one: mark %d, then the highest one is %d", i, below, e, w.High())
			}
		}
	}
}

func TestAboveTheHighestIsFreshAndThatThen(t *testing.T) {
	for _, high := range []int64{0, 1, 63, 64, 100, 65535, 1 << 47} {
		for _, above := range []int64{1, 2, 31, 32, 33, 62, 63, 64, 65, 127, 128, 1 << 16, 1 << 32, 1 << 48, math.MaxInt64 - high} {
			w, m := &window.Window{}, newModel()
			for _, i := range []int64{high, high - 1, high - 5, high - 62, high - 63} {
				markBoth(t, w, m, i)
			}
			if !w.Fresh(high + above) {
				t.Errorf("%d above %d isn't fresh", above, high)
			}
			markBoth(t, w, m, high+above)
			if w.High() != high+above {
				t.Errorf("%d above %d: the highest one is %d", above, high, w.High())
			}
			compare(t, w, m)
		}
	}
}

func TestToAskTurnsNothing(t *testing.T) {
	w := marked(t, 100, 37, 99)
	was := *w
	for i := int64(-10); i < 300; i++ {
		w.Fresh(i)
		w.High()
		w.Count()
	}
	if *w != was {
		t.Errorf("%v; was %v", *w, was)
	}
}

func TestWhatIsRefusedTurnsNothing(t *testing.T) {
	w := marked(t, 1000, 990, 937)
	was := *w
	for _, i := range []int64{1000, 990, 937, 936, 935, 1, 0, -1, math.MinInt64} {
		if e := w.Mark(i); e != api.ErrOld || *w != was {
			t.Errorf("mark %d: %d; %v", i, e, *w)
		}
	}
}

func TestOfNilNothingIsFresh(t *testing.T) {
	var w *window.Window
	for _, i := range edges() {
		if e := w.Mark(i); w.Fresh(i) || e != api.ErrOld {
			t.Errorf("%d: fresh is %v, mark %d", i, w.Fresh(i), e)
		}
	}
	if w.High() != -1 || w.Count() != 0 {
		t.Error(w.High(), w.Count())
	}
}

// P8.2: Count.

func TestCountGrowsByEachAndIsAtMostTheWidth(t *testing.T) {
	w := &window.Window{}
	for i := range int64(500) {
		w.Mark(i)
		if got, want := w.Count(), int(min(i+1, width)); got != want {
			t.Fatalf("behind %d: %d; want %d", i, got, want)
		}
	}
}

func TestCountOfIndicesThatFillUpDownwards(t *testing.T) {
	w := marked(t, 200)
	for n := 1; n < width; n++ {
		w.Mark(200 - int64(n))
		if w.Count() != n+1 || w.High() != 200 {
			t.Fatalf("%d below: %d, the highest one is %d", n, w.Count(), w.High())
		}
	}
	if e := w.Mark(200 - width); e != api.ErrOld || w.Count() != width {
		t.Errorf("beside the window: %d, %d", e, w.Count())
	}
}

// What the window leaves behind isn't counted any more.
func TestCountAsTheWindowGoesOn(t *testing.T) {
	for above := int64(1); above <= 130; above++ {
		w := &window.Window{}
		for i := range int64(width) {
			w.Mark(i)
		}
		w.Mark(width - 1 + above)
		if got, want := w.Count(), int(max(width-above, 0))+1; got != want {
			t.Errorf("%d above a full one: %d; want %d", above, got, want)
		}
	}
}

func TestCountIsNotTurnedByWhatIsRefused(t *testing.T) {
	w := marked(t, 500, 480, 470)
	for _, i := range []int64{500, 480, 470, 436, 0, -1} {
		if w.Mark(i); w.Count() != 3 {
			t.Errorf("behind %d: %d", i, w.Count())
		}
	}
}

// P8.3: none twice; what is Width or more below isn't fresh any more.

func TestNoneIsMarkedTwice(t *testing.T) {
	for seed := range int64(50) {
		r := rand.New(rand.NewSource(seed))
		w, m := &window.Window{}, newModel()
		at := int64(r.Intn(200))
		times := map[int64]int{}
		for range 2000 {
			i := at + int64(r.Intn(160)) - 80
			if r.Intn(200) == 0 {
				i += int64(r.Intn(300))
			}
			high := m.high
			if got, want := w.Mark(i), m.mark(i); got != want {
				t.Fatalf("seed %d: mark %d, the highest one being %d: %d; want %d", seed, i, high, got, want)
			} else if got == api.OK {
				times[i]++
			}
			at = max(at, m.high)
		}
		compare(t, w, m)
		for i, n := range times {
			if n != 1 || w.Fresh(i) {
				t.Fatalf("seed %d: %d was marked %d times, fresh is %v", seed, i, n, w.Fresh(i))
			}
		}
	}
}

// However far the highest one goes on, what was there is never fresh again.
func TestWhatWasThereIsNeverFreshAgain(t *testing.T) {
	for _, step := range []int64{1, 2, 3, 31, 32, 63, 64, 65, 128, 1 << 16, 1 << 32} {
		w := &window.Window{}
		var all []int64
		for n := range int64(200) {
			i := 10 + n*step
			if e := w.Mark(i); e != api.OK {
				t.Fatalf("step %d: mark %d: %d", step, i, e)
			}
			all = append(all, i)
			for _, was := range all {
				if w.Fresh(was) || w.Mark(was) != api.ErrOld {
					t.Fatalf("step %d: %d is fresh again behind %d", step, was, i)
				}
			}
		}
	}
}

func TestWidthOrMoreBelowIsNotFresh(t *testing.T) {
	for _, high := range []int64{64, 65, 100, 1000, 1 << 48, math.MaxInt64} {
		w := marked(t, high)
		for _, below := range []int64{width, width + 1, width + 63, 2 * width, 3 * width, high} {
			if i := high - below; w.Fresh(i) || w.Mark(i) != api.ErrOld {
				t.Errorf("%d below %d is fresh", below, high)
			}
		}
		if !w.Fresh(high-width+1) || w.High() != high || w.Count() != 1 {
			t.Errorf("below %d: turned", high)
		}
	}
}

// Each choice of indices in each order, up to a few, as the model tells.
func TestAllShortRuns(t *testing.T) {
	list := []int64{-1, 0, 1, 62, 63, 64, 65, 127, 128, 200}
	var run func(w window.Window, m *model, depth int)
	run = func(w window.Window, m *model, depth int) {
		compare(t, &w, m)
		if depth == 0 {
			return
		}
		for _, i := range list {
			// A window is copied by being assigned: what is done to the copy doesn't turn it.
			next, other := w, newModel()
			other.high = m.high
			for was := range m.there {
				other.there[was] = true
			}
			markBoth(t, &next, other, i)
			run(next, other, depth-1)
		}
		compare(t, &w, m)
	}
	run(window.Window{}, newModel(), 4)
}

// The width is the chapter's.
func TestWidth(t *testing.T) {
	if window.Width != width {
		t.Error(window.Width)
	}
}

// Rules 5 and 6: a copy is a window of its own, and the same done to two makes the same.

func TestWindowsDoNotShare(t *testing.T) {
	a := marked(t, 100, 90)
	b := *a
	a.Mark(95)
	a.Mark(300)
	if b.High() != 100 || b.Count() != 2 || !b.Fresh(95) || !b.Fresh(300) {
		t.Errorf("the copy is turned: %d of %d", b.High(), b.Count())
	}
	b.Mark(99)
	if a.High() != 300 || a.Count() != 1 {
		t.Errorf("the copied one is turned: %d of %d", a.High(), a.Count())
	}
}

func TestTheSameDoneMakesTheSame(t *testing.T) {
	list := []int64{5, 3, 5, -1, 70, 6, 7, 1 << 40, 70, 1<<40 - 63, 1<<40 - 64}
	var a, b window.Window
	for _, i := range list {
		if x, y := a.Mark(i), b.Mark(i); x != y || a != b {
			t.Errorf("behind %d: %d and %d", i, x, y)
		}
	}
}

// The chapter's examples.
func TestExamples(t *testing.T) {
	var w window.Window
	for _, c := range []struct {
		i    int64
		want api.Errno
	}{{100, api.OK}, {37, api.OK}, {36, api.ErrOld}, {100, api.ErrOld}} {
		if e := w.Mark(c.i); e != c.want {
			t.Errorf("mark %d: %d; want %d", c.i, e, c.want)
		}
	}
}

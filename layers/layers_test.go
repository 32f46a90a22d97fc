package layers_test

import (
	"math"
	"math/rand"
	"testing"

	"tenaille/api"
	"tenaille/layers"
)

// numbers: all layers that there may be, those next to them, and numbers at the edges of their kinds.
var numbers = []int{math.MinInt, math.MinInt + 1, -1 << 32, -1<<31 - 1, -1 << 31, -256, -5, -4, -3, -2, -1, 0, 1, 2, 3, 4, 5, 255, 256, 257, 1<<31 - 1, 1 << 31, 1 << 32, 1<<32 + 1, math.MaxInt - 1, math.MaxInt}

func want(layer int) act           { return act{layer: layer} }
func take(layer int, key bool) act { return act{take: true, layer: layer, key: key} }

// chooser is one among many, to which acts were done.
func chooser(t *testing.T, many int, acts ...act) *layers.Chooser {
	t.Helper()
	c := layers.New(many)
	if c == nil {
		t.Fatalf("New(%d) is nil", many)
	}
	for _, a := range acts {
		do(c, a)
	}
	return c
}

// stands: what is wanted, and goes.
func stands(t *testing.T, c *layers.Chooser, wanted, goes int, needs bool) {
	t.Helper()
	if w, g, n := c.Wanted(), c.Goes(), c.Needs(); w != wanted || g != goes || n != needs {
		t.Fatalf("wanted %d, goes %d, needs %v; want %d, %d, %v", w, g, n, wanted, goes, needs)
	}
}

func tells(t *testing.T, c *layers.Chooser, a act, want answer) {
	t.Helper()
	if x := do(c, a); x != want {
		t.Fatalf("%+v tells %+v; want %+v", a, x, want)
	}
}

var (
	passed = answer{}
	taken  = answer{taken: true}
	turned = answer{taken: true, turned: true}
)

func TestTheChaptersExample(t *testing.T) {
	c := chooser(t, 2)
	tells(t, c, want(1), answer{})
	tells(t, c, take(1, false), passed)
	stands(t, c, 1, layers.None, true)
	tells(t, c, take(1, true), turned)
	stands(t, c, 1, 1, false)
}

func TestConstants(t *testing.T) {
	if layers.None != -1 || layers.MaxLayers != 4 {
		t.Fatal(layers.None, layers.MaxLayers)
	}
}

// P23.1: New.

func TestHowManyThereMayBe(t *testing.T) {
	for _, many := range numbers {
		c := layers.New(many)
		if may := many >= 1 && many <= 4; may != (c != nil) {
			t.Fatalf("New(%d): nil is %v", many, c == nil)
		}
		if c != nil {
			stands(t, c, -1, -1, false)
		}
	}
}

func TestANewOneTakesNothing(t *testing.T) {
	for many := 1; many <= 4; many++ {
		for _, layer := range numbers {
			c := chooser(t, many)
			tells(t, c, take(layer, false), passed)
			tells(t, c, take(layer, true), passed)
			stands(t, c, -1, -1, false)
		}
	}
}

// P23.1: Want.

func TestWhichLayersMayBeWanted(t *testing.T) {
	for many := 1; many <= 4; many++ {
		for _, layer := range numbers {
			c := chooser(t, many)
			switch {
			case layer == -1:
				tells(t, c, want(layer), answer{code: api.OK})
				stands(t, c, -1, -1, false)
			case layer >= 0 && layer < many:
				tells(t, c, want(layer), answer{code: api.OK})
				stands(t, c, layer, -1, true)
			default:
				tells(t, c, want(layer), answer{code: api.ErrNone})
				stands(t, c, -1, -1, false)
			}
		}
	}
}

// What there isn't is refused, and what is wanted and goes stays.
func TestARefusedWantTurnsNothing(t *testing.T) {
	for many := 1; many <= 4; many++ {
		for _, layer := range numbers {
			if layer >= -1 && layer < many {
				continue
			}
			last := many - 1
			c := chooser(t, many, want(0), take(0, true), want(last))
			tells(t, c, want(layer), answer{code: api.ErrNone})
			stands(t, c, last, 0, last != 0)
			tells(t, c, take(layer, true), passed)
			tells(t, c, take(0, false), taken)
			stands(t, c, last, 0, last != 0)
		}
	}
}

// The layer that goes goes on, till the one that is wanted begins a whole picture.
func TestWhatGoesGoesOn(t *testing.T) {
	c := chooser(t, 3, want(0), take(0, true), want(2))
	for range 3 {
		tells(t, c, take(0, false), taken)
		tells(t, c, take(0, true), taken)
		tells(t, c, take(2, false), passed)
		tells(t, c, take(1, true), passed)
		stands(t, c, 2, 0, true)
	}
	tells(t, c, take(2, true), turned)
	stands(t, c, 2, 2, false)
	tells(t, c, take(0, true), passed)
	tells(t, c, take(2, true), taken)
	tells(t, c, take(2, false), taken)
	stands(t, c, 2, 2, false)
}

func TestWithNoneNothingGoes(t *testing.T) {
	for layer := range 4 {
		c := chooser(t, 4, want(layer), take(layer, true), want((layer+1)%4))
		tells(t, c, want(layers.None), answer{code: api.OK})
		for _, other := range numbers {
			tells(t, c, take(other, false), passed)
			tells(t, c, take(other, true), passed)
			stands(t, c, -1, -1, false)
		}
		// It doesn't go again before it begins a whole picture again.
		tells(t, c, want(layer), answer{code: api.OK})
		stands(t, c, layer, -1, true)
		tells(t, c, take(layer, false), passed)
		tells(t, c, take(layer, true), turned)
		stands(t, c, layer, layer, false)
	}
}

func TestWantedAgain(t *testing.T) {
	c := chooser(t, 2, want(1), take(1, true), want(1))
	stands(t, c, 1, 1, false)
	tells(t, c, take(1, true), taken)
	// One that goes, and was left and is wanted again, isn't turned to.
	do(c, want(0))
	stands(t, c, 0, 1, true)
	do(c, want(1))
	stands(t, c, 1, 1, false)
	tells(t, c, take(1, true), taken)
	tells(t, c, take(0, true), passed)
}

// Of several that were wanted it is the last one that is.
func TestTheLastWantHolds(t *testing.T) {
	for a := range 4 {
		for b := range 4 {
			c := chooser(t, 4, want(a), want(b))
			for layer := range 4 {
				if layer != b {
					tells(t, c, take(layer, true), passed)
					stands(t, c, b, -1, true)
				}
			}
			tells(t, c, take(b, true), turned)
			stands(t, c, b, b, false)
		}
	}
}

// P23.2 and P23.3: Take, Wanted, Goes, Needs.

// standing is how a chooser may stand.
type standing struct{ many, wanted, goes int }

// allStandings: with none wanted none goes, else each of them may, or none.
func allStandings() []standing {
	var l []standing
	for many := 1; many <= 4; many++ {
		l = append(l, standing{many, -1, -1})
		for wanted := range many {
			for goes := -1; goes < many; goes++ {
				l = append(l, standing{many, wanted, goes})
			}
		}
	}
	return l
}

func (s standing) chooser(t *testing.T) *layers.Chooser {
	t.Helper()
	c := chooser(t, s.many)
	if s.goes >= 0 {
		do(c, want(s.goes))
		do(c, take(s.goes, true))
	}
	if s.wanted >= 0 {
		do(c, want(s.wanted))
	}
	stands(t, c, s.wanted, s.goes, s.wanted >= 0 && s.wanted != s.goes)
	return c
}

func TestEachPacketOfEachStanding(t *testing.T) {
	for _, s := range allStandings() {
		for _, layer := range numbers {
			for _, key := range []bool{false, true} {
				c, is := s.chooser(t), layer >= 0 && layer < s.many
				switch {
				case is && layer == s.goes:
					tells(t, c, take(layer, key), taken)
					stands(t, c, s.wanted, s.goes, s.wanted != s.goes)
				case is && layer == s.wanted && key:
					tells(t, c, take(layer, key), turned)
					stands(t, c, layer, layer, false)
				default:
					tells(t, c, take(layer, key), passed)
					stands(t, c, s.wanted, s.goes, s.wanted >= 0 && s.wanted != s.goes)
				}
			}
		}
	}
}

func TestEachWantOfEachStanding(t *testing.T) {
	for _, s := range allStandings() {
		for _, layer := range numbers {
			c := s.chooser(t)
			switch {
			case layer == -1:
				tells(t, c, want(layer), answer{code: api.OK})
				stands(t, c, -1, -1, false)
			case layer >= 0 && layer < s.many:
				tells(t, c, want(layer), answer{code: api.OK})
				stands(t, c, layer, s.goes, layer != s.goes)
			default:
				tells(t, c, want(layer), answer{code: api.ErrNone})
				stands(t, c, s.wanted, s.goes, s.wanted >= 0 && s.wanted != s.goes)
			}
		}
	}
}

// What is asked turns nothing.
func TestAskingTurnsNothing(t *testing.T) {
	c := chooser(t, 3, want(0), take(0, true), want(2))
	was := *c
	for range 5 {
		stands(t, c, 2, 0, true)
	}
	if *c != was {
		t.Fatalf("%+v was %+v", *c, was)
	}
}

// Two choosers don't turn each other.
func TestChoosersApart(t *testing.T) {
	a, b := chooser(t, 2), chooser(t, 2)
	do(a, want(1))
	do(a, take(1, true))
	stands(t, b, -1, -1, false)
	do(b, want(0))
	tells(t, b, take(1, true), passed)
	tells(t, b, take(0, true), turned)
	stands(t, a, 1, 1, false)
	stands(t, b, 0, 0, false)
}

// Of nil.

func TestOfNil(t *testing.T) {
	var c *layers.Chooser
	for _, layer := range numbers {
		tells(t, c, want(layer), answer{code: api.ErrArg})
		tells(t, c, take(layer, false), passed)
		tells(t, c, take(layer, true), passed)
		stands(t, c, layers.None, layers.None, false)
	}
}

// The chapter names no zero chooser: it is one that has no layers.
func TestOfZero(t *testing.T) {
	var c layers.Chooser
	for _, layer := range numbers {
		code := api.ErrNone
		if layer == -1 {
			code = api.OK
		}
		tells(t, &c, want(layer), answer{code: code})
		tells(t, &c, take(layer, false), passed)
		tells(t, &c, take(layer, true), passed)
		stands(t, &c, layers.None, layers.None, false)
	}
}

// P23.4, and all of them together, held against the model.

// actsAmong are all that differ: each Want and Take of what there is, of None, and of what there isn't.
func actsAmong(many int) []act {
	var l []act
	for layer := -2; layer <= many; layer++ {
		l = append(l, want(layer), take(layer, false), take(layer, true))
	}
	return l
}

// eachRun does all runs of n acts.
func eachRun(t *testing.T, b both, acts []act, n int) {
	t.Helper()
	if n == 0 {
		return
	}
	for _, a := range acts {
		c := b.copied()
		c.do(t, a)
		eachRun(t, c, acts, n-1)
	}
}

func TestAllShortRuns(t *testing.T) {
	for many, long := range map[int]int{1: 5, 2: 4, 3: 4, 4: 3} {
		eachRun(t, newBoth(t, many), actsAmong(many), long)
	}
}

func TestLongRunsByChance(t *testing.T) {
	r := rand.New(rand.NewSource(23))
	for run := range 200 {
		b := newBoth(t, 1+run%4)
		acts := actsAmong(b.m.many)
		for range 500 {
			b.do(t, acts[r.Intn(len(acts))])
		}
	}
}

// It turns with whole pictures alone, and to what is wanted alone; what isn't taken turns nothing: told without the model, from one step to the next.
func TestHowItTurns(t *testing.T) {
	r := rand.New(rand.NewSource(234))
	turns := 0
	for run := range 100 {
		many := 1 + run%4
		c := chooser(t, many)
		for range 2000 {
			was, wanted, goes := *c, c.Wanted(), c.Goes()
			if r.Intn(4) == 0 {
				c.Want(r.Intn(many+1) - 1)
				if c.Goes() != goes && c.Goes() != layers.None {
					t.Fatalf("Want lets %d go", c.Goes())
				}
				continue
			}
			layer, key := r.Intn(many+2)-1, r.Intn(3) == 0
			took, turned := c.Take(layer, key)
			if turned != (c.Goes() != goes) || c.Wanted() != wanted {
				t.Fatalf("turned is %v, %d wanted and %d goes; ahead %d and %d", turned, c.Wanted(), c.Goes(), wanted, goes)
			}
			if turned && (!took || !key || layer != wanted || c.Goes() != layer) {
				t.Fatalf("turned with a packet of %d (%v) where %d is wanted; %d goes", layer, key, wanted, c.Goes())
			}
			if !turned && *c != was {
				t.Fatalf("%+v was %+v ahead of what wasn't turned to", *c, was)
			}
			if took && layer != c.Goes() {
				t.Fatalf("a packet of %d is taken where %d goes", layer, c.Goes())
			}
			if turned {
				turns++
			}
		}
	}
	if turns < 1000 {
		t.Fatalf("only %d turns", turns)
	}
}

package coalesce_test

import (
	"math/big"
	"testing"

	"tenaille/coalesce"
)

// Kinds of acts.
const (
	asks = iota
	comes
	dues
)

// act is what is done to a gate: an Ask, a Came, or a Due at a tick.
type act struct {
	kind int
	tick int64
}

func due(tick int64) act { return act{dues, tick} }

var (
	ask  = act{kind: asks}
	came = act{kind: comes}
)

// step is an act, and whether a request went out with it.
type step struct {
	act
	out bool
}

// model is a gate by the chapter's words: it keeps all that was done, and goes back through that; its ticks have no end.
type model struct {
	interval int64
	done     []step
}

// asked: an Ask behind which there was neither a request nor a picture.
func (m *model) asked() bool {
	for i := len(m.done) - 1; i >= 0; i-- {
		s := m.done[i]
		if s.kind == asks {
			return true
		}
		if s.kind == comes || s.out {
			return false
		}
	}
	return false
}

func (m *model) sent() int64 {
	n := int64(0)
	for _, s := range m.done {
		if s.out {
			n++
		}
	}
	return n
}

// rested: was there no request, or is the tick at least the interval behind the last one?
func (m *model) rested(tick int64) bool {
	for i := len(m.done) - 1; i >= 0; i-- {
		if s := m.done[i]; s.out {
			return !earlier(tick, s.tick, m.interval)
		}
	}
	return true
}

// earlier tells whether a tick is ahead of another one and the interval, of which one below 1 is 1.
func earlier(tick, last, interval int64) bool {
	if interval < 1 {
		interval = 1
	}
	first := new(big.Int).Add(big.NewInt(last), big.NewInt(interval))
	return big.NewInt(tick).Cmp(first) < 0
}

func (m *model) do(a act) bool {
	out := a.kind == dues && m.asked() && m.rested(a.tick)
	m.done = append(m.done, step{a, out})
	return out
}

// do does an act to a gate: does a request go out?
func do(g *coalesce.Gate, a act) bool {
	switch a.kind {
	case asks:
		g.Ask()
	case comes:
		g.Came()
	case dues:
		return g.Due(a.tick)
	}
	return false
}

// both are a gate and its model, to which the same is done.
type both struct {
	g *coalesce.Gate
	m *model
}

func newBoth(t *testing.T, interval int64) both {
	t.Helper()
	b := both{coalesce.New(interval), &model{interval: interval}}
	if b.g == nil {
		t.Fatalf("New(%d) is nil", interval)
	}
	b.compare(t)
	return b
}

func (b both) compare(t *testing.T) {
	t.Helper()
	asked, sent := b.m.asked(), b.m.sent()
	if a, s := b.g.Asked(), b.g.Sent(); a != asked || s != sent {
		t.Fatalf("of %d, behind %+v: asked %v, sent %d; want %v, %d", b.m.interval, b.m.done, a, s, asked, sent)
	}
}

func (b both) do(t *testing.T, a act) {
	t.Helper()
	was := b.m.done
	if out, want := do(b.g, a), b.m.do(a); out != want {
		t.Fatalf("of %d, behind %+v: %+v tells %v; want %v", b.m.interval, was, a, out, want)
	}
	b.compare(t)
}

// copied is another one to which the same was done.
func (b both) copied() both {
	g := *b.g
	m := model{interval: b.m.interval, done: append([]step(nil), b.m.done...)}
	return both{&g, &m}
}

package ladder_test

import (
	"testing"

	"tenaille/api"
	"tenaille/ladder"
)

// model is a ladder by the chapter's words, without counting down: how many strikes there were at the last one of them,
// and how many ticks went by since, tell how many there are.
type model struct {
	rungs  api.Rungs
	struck int
	gone   int64
	held   bool // was Quarantine reached since the last reset?
}

func (m *model) strikes() int {
	if m.held {
		return m.struck
	}
	return int(max(0, int64(m.struck)-m.gone/m.rungs.Decay))
}

func (m *model) state() int {
	switch n := m.strikes(); {
	case m.held || n >= m.rungs.Hard:
		return 2
	case n >= m.rungs.Soft:
		return 1
	}
	return 0
}

func (m *model) strike(n int) {
	if n < 1 {
		return
	}
	if n > 1000 {
		n = 1000
	}
	m.struck = min(m.strikes()+n, 1000)
	m.gone = 0
	m.held = m.held || m.struck >= m.rungs.Hard
}

func (m *model) tick() {
	m.gone++
}

func (m *model) reset() {
	*m = model{rungs: m.rungs}
}

// both are a ladder and its model, to which the same is done.
type both struct {
	l *ladder.Ladder
	m *model
}

func newBoth(t *testing.T, rungs api.Rungs) both {
	t.Helper()
	b := both{ladder.New(rungs), &model{rungs: rungs}}
	if b.l == nil {
		t.Fatalf("New(%+v) is nil", rungs)
	}
	b.compare(t)
	return b
}

func (b both) compare(t *testing.T) {
	t.Helper()
	if s, n := b.l.State(), b.l.Strikes(); s != b.m.state() || n != b.m.strikes() {
		t.Fatalf("%+v: state %d, %d strikes; want %d, %d", *b.m, s, n, b.m.state(), b.m.strikes())
	}
}

func (b both) strike(t *testing.T, n int) {
	t.Helper()
	b.l.Strike(n)
	b.m.strike(n)
	b.compare(t)
}

func (b both) tick(t *testing.T) {
	t.Helper()
	b.l.Tick()
	b.m.tick()
	b.compare(t)
}

func (b both) reset(t *testing.T) {
	t.Helper()
	b.l.Reset()
	b.m.reset()
	b.compare(t)
}

// copied is another one, made by Copy.
func (b both) copied(t *testing.T) both {
	t.Helper()
	m := *b.m
	other := both{b.l.Copy(), &m}
	if other.l == nil || other.l == b.l {
		t.Fatalf("%+v: a copy at %p of one at %p", m, other.l, b.l)
	}
	other.compare(t)
	return other
}

package layers_test

import (
	"testing"

	"tenaille/api"
	"tenaille/layers"
)

// act is what is done to a chooser: a Want, or the Take of a packet.
type act struct {
	take  bool
	layer int
	key   bool
}

// answer is what an act tells.
type answer struct {
	code   api.Errno
	taken  bool
	turned bool
}

// model is a chooser by the chapter's words: it keeps all that was done, and goes back through that to tell what is wanted, and goes.
type model struct {
	many int
	done []act
}

func (m *model) has(layer int) bool {
	for i := range m.many {
		if i == layer {
			return true
		}
	}
	return false
}

// wantedBehind is what was wanted behind the first n acts: what the last one of them told that wanted what there is.
func (m *model) wantedBehind(n int) int {
	for i := n - 1; i >= 0; i-- {
		if a := m.done[i]; !a.take && (a.layer == -1 || m.has(a.layer)) {
			return a.layer
		}
	}
	return -1
}

func (m *model) wanted() int {
	return m.wantedBehind(len(m.done))
}

// goes is the layer of the last whole picture that began and was of the layer that was wanted then, if None wasn't wanted since.
func (m *model) goes() int {
	for i := len(m.done) - 1; i >= 0; i-- {
		a := m.done[i]
		if !a.take && a.layer == -1 {
			return -1
		}
		if a.take && a.key && m.has(a.layer) && a.layer == m.wantedBehind(i) {
			return a.layer
		}
	}
	return -1
}

func (m *model) do(a act) answer {
	var x answer
	switch {
	case !a.take && a.layer != -1 && !m.has(a.layer):
		x.code = api.ErrNone
	case a.take && m.has(a.layer) && a.layer == m.goes():
		x.taken = true
	case a.take && m.has(a.layer) && a.layer == m.wanted() && a.key:
		x.taken, x.turned = true, true
	}
	m.done = append(m.done, a)
	return x
}

// do does an act to a chooser.
func do(c *layers.Chooser, a act) answer {
	if a.take {
		taken, turned := c.Take(a.layer, a.key)
		return answer{taken: taken, turned: turned}
	}
	return answer{code: c.Want(a.layer)}
}

// both are a chooser and its model, to which the same is done.
type both struct {
	c *layers.Chooser
	m *model
}

func newBoth(t *testing.T, many int) both {
	t.Helper()
	b := both{layers.New(many), &model{many: many}}
	if b.c == nil {
		t.Fatalf("New(%d) is nil", many)
	}
	b.compare(t)
	return b
}

func (b both) compare(t *testing.T) {
	t.Helper()
	wanted, goes := b.m.wanted(), b.m.goes()
	needs := wanted >= 0 && wanted != goes
	if w, g, n := b.c.Wanted(), b.c.Goes(), b.c.Needs(); w != wanted || g != goes || n != needs {
		t.Fatalf("of %d, behind %+v: wanted %d, goes %d, needs %v; want %d, %d, %v", b.m.many, b.m.done, w, g, n, wanted, goes, needs)
	}
}

func (b both) do(t *testing.T, a act) {
	t.Helper()
	was := append([]act(nil), b.m.done...)
	if x, want := do(b.c, a), b.m.do(a); x != want {
		t.Fatalf("of %d, behind %+v: %+v tells %+v; want %+v", b.m.many, was, a, x, want)
	}
	b.compare(t)
}

// copied is another one to which the same was done.
func (b both) copied() both {
	c := *b.c
	m := model{many: b.m.many, done: append([]act(nil), b.m.done...)}
	return both{&c, &m}
}

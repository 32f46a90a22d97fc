package rewrite_test

import (
	"math/big"
	"testing"

	"tenaille/api"
	"tenaille/rewrite"
)

// model is a rewriter by the chapter's words: it keeps all that went out, seeks the highest of that when a source is followed,
// and reckons indices without an end, and stamps and pictures by remainders of numbers that have room for them.
type model struct {
	first   int64
	follows bool
	there   api.Mapped
	begun   *big.Int // the index here; its stamp and its picture are those of here
	here    api.Mapped
	out     []api.Mapped
}

// highest is the highest that went out, of those with the same index the last one; false, if none did.
func (m *model) highest() (api.Mapped, bool) {
	if len(m.out) == 0 {
		return api.Mapped{}, false
	}
	top := m.out[0]
	for _, x := range m.out {
		if x.Index >= top.Index {
			top = x
		}
	}
	return top, true
}

func (m *model) high() int64 {
	if top, ok := m.highest(); ok {
		return top.Index
	}
	return -1
}

func (m *model) start(first int64) {
	if first >= 0 && !m.follows {
		m.first = first
	}
}

func (m *model) follow(x api.Mapped) api.Errno {
	if x.Index < 0 {
		return api.ErrState
	}
	m.follows, m.there = true, x
	m.begun, m.here = big.NewInt(m.first), api.Mapped{}
	if top, ok := m.highest(); ok {
		m.begun = new(big.Int).Add(big.NewInt(top.Index), big.NewInt(1))
		m.here.Stamp = uint32((uint64(top.Stamp) + 3000) % 4294967296)
		m.here.Picture = uint16((int(top.Picture) + 1) % 32768)
	}
	return api.OK
}

func (m *model) place(x api.Mapped) (api.Mapped, api.Errno) {
	if !m.follows || x.Index < 0 {
		return api.Mapped{}, api.ErrState
	}
	if x.Index < m.there.Index {
		return api.Mapped{}, api.ErrOld
	}
	index := new(big.Int).Add(m.begun, big.NewInt(x.Index-m.there.Index))
	if !index.IsInt64() {
		return api.Mapped{}, api.ErrState
	}
	stamp := (uint64(m.here.Stamp) + 4294967296 + uint64(x.Stamp) - uint64(m.there.Stamp)) % 4294967296
	picture := (int(m.here.Picture) + 65536 + int(x.Picture) - int(m.there.Picture)) % 32768
	y := api.Mapped{Index: index.Int64(), Stamp: uint32(stamp), Picture: uint16(picture)}
	m.out = append(m.out, y)
	return y, api.OK
}

// both are a rewriter and its model, to which the same is done.
type both struct {
	w *rewrite.Writer
	m *model
}

func newBoth(t *testing.T) both {
	t.Helper()
	b := both{new(rewrite.Writer), new(model)}
	b.compare(t)
	return b
}

// compare holds against each other what both have, and where another source would begin: that is asked of copies.
func (b both) compare(t *testing.T) {
	t.Helper()
	if h := b.w.High(); h != b.m.high() {
		t.Fatalf("High: %d; want %d", h, b.m.high())
	}
	w, m := *b.w, *b.m
	x := api.Mapped{Index: 3, Stamp: 17, Picture: 40}
	if e := w.Follow(x); e != m.follow(x) {
		t.Fatalf("Follow of a copy: %d", e)
	}
	y, e := w.Map(x)
	if yy, ee := m.place(x); y != yy || e != ee {
		t.Fatalf("another source begins at %+v, %d; want %+v, %d", y, e, yy, ee)
	}
}

func (b both) start(t *testing.T, first int64) {
	t.Helper()
	b.w.Start(first)
	b.m.start(first)
	b.compare(t)
}

func (b both) follow(t *testing.T, x api.Mapped) {
	t.Helper()
	if e, want := b.w.Follow(x), b.m.follow(x); e != want {
		t.Fatalf("Follow(%+v): %d; want %d", x, e, want)
	}
	b.compare(t)
}

func (b both) place(t *testing.T, x api.Mapped) {
	t.Helper()
	y, e := b.w.Map(x)
	if yy, want := b.m.place(x); y != yy || e != want {
		t.Fatalf("Map(%+v): %+v, %d; want %+v, %d", x, y, e, yy, want)
	}
	b.compare(t)
}

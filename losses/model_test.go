package losses_test

import (
	"maps"
	"math/big"
	"slices"
	"testing"

	"tenaille/api"
	"tenaille/losses"
)

// gone is a missed packet of the model: how often it was asked for, when it may be next, without a bound.
type gone struct {
	asked int
	next  *big.Int
}

// model is a keeper by the chapter's words: missed ones without an order, each gap gone through as a whole.
type model struct {
	pause, high int64
	missed      map[int64]*gone
}

func newModel(pause int64) *model {
	if pause < 1 {
		pause = 1
	}
	return &model{pause: pause, high: -1, missed: map[int64]*gone{}}
}

func (m *model) missing() []int64 {
	return slices.Sorted(maps.Keys(m.missed))
}

func (m *model) came(i, tick int64) {
	if i < 0 {
		return
	}
	if m.high < 0 {
		m.high = i
		return
	}
	if i <= m.high {
		delete(m.missed, i)
		return
	}
	if i-m.high > 1<<40 {
		return
	}
	for between := m.high + 1; between < i; between++ {
		m.missed[between] = &gone{next: big.NewInt(tick)}
	}
	all := m.missing()
	for len(all) > 32 {
		delete(m.missed, all[0])
		all = all[1:]
	}
	m.high = i
}

// ask tells, beside the losses, which indices are asked for.
func (m *model) ask(tick int64) ([]api.Loss, []int64) {
	var told []api.Loss
	var asked []int64
	for _, i := range m.missing() {
		g := m.missed[i]
		if g.next.Cmp(big.NewInt(tick)) > 0 {
			continue
		}
		seq, last := int(i%65536), len(told)-1
		behind := 0
		if last >= 0 {
			behind = (seq - int(told[last].Seq) + 65536) % 65536
		}
		switch {
		case behind >= 1 && behind <= 16:
			told[last].Bits |= 1 << (behind - 1)
		case len(told) == 16:
			return told, asked
		default:
			told = append(told, api.Loss{Seq: uint16(seq)})
		}
		asked = append(asked, i)
		g.asked++
		g.next = new(big.Int).Add(big.NewInt(tick), big.NewInt(m.pause))
		if g.asked == 3 {
			delete(m.missed, i)
		}
	}
	return told, asked
}

// both is a keeper and the model of it.
type both struct {
	k *losses.Keeper
	m *model
}

func newBoth(pause int64) *both {
	return &both{losses.New(pause), newModel(pause)}
}

func (b *both) compare(t *testing.T) {
	t.Helper()
	if got, want := b.k.Missing(), b.m.missing(); !slices.Equal(got, want) {
		t.Fatalf("missing %v; want %v", got, want)
	}
}

func (b *both) came(t *testing.T, i, tick int64) {
	t.Helper()
	b.k.Came(i, tick)
	b.m.came(i, tick)
	b.compare(t)
}

// ask tells which indices are asked for.
func (b *both) ask(t *testing.T, tick int64) []int64 {
	t.Helper()
	was := b.k.Missing()
	want, asked := b.m.ask(tick)
	if got := b.k.Ask(tick); !slices.Equal(got, want) {
		t.Fatalf("ask at %d, missing %v: %v; want %v", tick, was, got, want)
	}
	b.compare(t)
	return asked
}

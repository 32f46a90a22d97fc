package coalesce

import "testing"

// To get near the most requests by sending alone would take longer than anyone waits; so how many there were is put there.

func TestTheMostRequests(t *testing.T) {
	const top = 4611686018427387904 // 2^62
	g := New(1)
	g.Ask()
	if !g.Due(0) {
		t.Fatal("the first one isn't due")
	}
	g.sent = top - 3
	for i, want := range []int64{top - 2, top - 1, top, top, top, top} {
		tick := int64(i + 1)
		g.Ask()
		if !g.Due(tick) || g.Sent() != want || g.Asked() {
			t.Fatal(tick, g.Sent(), want, g.Asked())
		}
		// The interval holds there too.
		g.Ask()
		if g.Due(tick) || g.Sent() != want || !g.Asked() {
			t.Fatal(tick, g.Sent(), want, g.Asked())
		}
	}
}

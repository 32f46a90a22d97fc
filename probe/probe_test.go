package probe_test

import (
	"math/rand"
	"testing"

	"tenaille/api"
	"tenaille/probe"
)

// The chapter's numbers, written out: the tests don't go by the program's.
const (
	round      = 65536
	maxDropout = 3000
	lastBad    = 65436 // how far behind the highest number one is that comes from elsewhere, at most
)

// model is a source as RFC 3550's appendix A.1 has it, in whole numbers.
type model struct {
	known     bool
	probation int
	maxSeq    int
	cycles    int64
	baseSeq   int
	badSeq    int
	received  int64
}

func mod(n int64) int {
	return int((n%round + round) % round)
}

func (m *model) initSeq(seq int) {
	m.baseSeq, m.maxSeq, m.badSeq, m.cycles, m.received = seq, seq, round+1, 0, 0
}

func (m *model) take(n uint16) bool {
	seq := int(n)
	if !m.known {
		m.initSeq(seq)
		m.known, m.maxSeq, m.probation = true, mod(int64(seq)-1), 2
	}
	delta := mod(int64(seq) - int64(m.maxSeq))
	if m.probation > 0 {
		if seq != mod(int64(m.maxSeq)+1) {
			m.probation, m.maxSeq = 1, seq
			return false
		}
		m.probation, m.maxSeq = m.probation-1, seq
		if m.probation > 0 {
			return false
		}
		m.initSeq(seq)
		m.received++
		return true
	}
	if delta < maxDropout {
		if seq < m.maxSeq {
			m.cycles += round
		}
		m.maxSeq = seq
	} else if delta <= lastBad {
		if seq != m.badSeq {
			m.badSeq = mod(int64(seq) + 1)
			return false
		}
		m.initSeq(seq)
	}
	m.received++
	return true
}

func (m *model) standing() api.Standing {
	if !m.known || m.probation > 0 {
		return api.Standing{}
	}
	high := m.cycles + int64(m.maxSeq)
	return api.Standing{Expected: high - int64(m.baseSeq) + 1, Received: m.received, High: high, Valid: true}
}

// index: the greatest one of the number that isn't above the highest index.
func (m *model) index(seq uint16) int64 {
	if !m.known || m.probation > 0 {
		return 0
	}
	high := m.cycles + int64(m.maxSeq)
	return high - int64(mod(high-int64(seq)))
}

// edges: numbers at the edges of what a number may be, and of how far one is behind another one.
func edges() []uint16 {
	return []uint16{0, 1, 2, 98, 99, 100, 101, 2998, 2999, 3000, 3001, 5000, 32767, 32768, 62535, 62536, 62537, 65435, 65436, 65437, 65533, 65534, 65535}
}

// takeBoth gives a number to the source and to the model, which must tell the same then.
func takeBoth(t *testing.T, s *probe.Source, m *model, seq uint16) {
	t.Helper()
	was := m.standing()
	if got, want := s.Take(seq), m.take(seq); got != want {
		t.Fatalf("%d, behind %+v: %v; want %v", seq, was, got, want)
	}
	compare(t, s, m)
}

// compare: does the source tell what the model does?
func compare(t *testing.T, s *probe.Source, m *model) {
	t.Helper()
	if got, want := s.Standing(), m.standing(); got != want {
		t.Fatalf("it stands at %+v; want %+v", got, want)
	}
	for _, seq := range edges() {
		if got, want := s.Index(seq), m.index(seq); got != want {
			t.Fatalf("the index of %d, of %+v: %d; want %d", seq, m.standing(), got, want)
		}
	}
}

// given: a source that was given these numbers.
func given(list ...uint16) probe.Source {
	var s probe.Source
	for _, seq := range list {
		s.Take(seq)
	}
	return s
}

// beginning: a source that began with a number.
func beginning(t *testing.T, seq uint16) probe.Source {
	t.Helper()
	s := given(seq-1, seq)
	expect(t, &s, api.Standing{Expected: 1, Received: 1, High: int64(seq), Valid: true})
	return s
}

// turned: a source that began with a number, and went so many turns round to it again.
func turned(t *testing.T, seq uint16, turns int64) probe.Source {
	t.Helper()
	s := beginning(t, seq)
	for range turns * (round / 2048) {
		high := s.Standing().High
		if !s.Take(uint16(high + 2048)) {
			t.Fatalf("2048 behind %d isn't taken", high)
		}
	}
	expect(t, &s, api.Standing{Expected: turns*round + 1, Received: turns*(round/2048) + 1, High: turns*round + int64(seq), Valid: true})
	return s
}

func expect(t *testing.T, s *probe.Source, want api.Standing) {
	t.Helper()
	if got := s.Standing(); got != want {
		t.Fatalf("it stands at %+v; want %+v", got, want)
	}
}

// takes gives the source numbers, all of which must be taken, or none.
func takes(t *testing.T, s *probe.Source, want bool, list ...uint16) {
	t.Helper()
	for _, seq := range list {
		if got := s.Take(seq); got != want {
			t.Fatalf("%d: taken is %v; it stands at %+v", seq, got, s.Standing())
		}
	}
}

// P17.1 (Take, Standing), and P17.2 (Index): ahead of the beginning.

func TestZeroSourceHasHadNothing(t *testing.T) {
	var s probe.Source
	compare(t, &s, &model{})
	for seq := range round {
		if i := s.Index(uint16(seq)); i != 0 {
			t.Fatalf("the index of %d: %d", seq, i)
		}
	}
	expect(t, &s, api.Standing{})
}

func TestOfNilNothingIsTaken(t *testing.T) {
	var s *probe.Source
	for _, seq := range edges() {
		if s.Take(seq) || s.Take(seq+1) || s.Index(seq) != 0 || s.Standing() != (api.Standing{}) {
			t.Errorf("%d is taken", seq)
		}
	}
}

// With the first number one more is lacking: the one behind it is taken, and the source begins with that.
func TestTheFirstNumberIsNotTakenAndTheOneBehindItIs(t *testing.T) {
	for n := range round {
		seq := uint16(n)
		s := given()
		if s.Take(seq) || s.Standing() != (api.Standing{}) || s.Index(seq) != 0 || s.Index(0) != 0 {
			t.Fatalf("the first number %d: it stands at %+v", seq, s.Standing())
		}
		want := api.Standing{Expected: 1, Received: 1, High: int64(seq + 1), Valid: true}
		if !s.Take(seq+1) || s.Standing() != want {
			t.Fatalf("%d behind the first one: it stands at %+v", seq+1, s.Standing())
		}
	}
}

// Whatever else comes in probation isn't taken, and the one behind that is.
func TestInProbationOnlyTheOneBehindIsTaken(t *testing.T) {
	for _, first := range edges() {
		for n := range round {
			seq := uint16(n)
			if seq == first+1 {
				continue
			}
			s := given(first)
			if s.Take(seq) || s.Standing() != (api.Standing{}) || s.Index(seq) != 0 {
				t.Fatalf("%d, in probation behind %d: it stands at %+v", seq, first, s.Standing())
			}
			other := s
			if seq != first && other.Take(first+1) {
				t.Fatalf("%d behind %d, then %d: taken", first+1, first, seq)
			}
			if !s.Take(seq+1) || s.Standing().High != int64(seq+1) {
				t.Fatalf("%d behind %d: it stands at %+v", seq+1, seq, s.Standing())
			}
		}
	}
}

func TestProbationLastsAsLongAsNoneIsBehindAnother(t *testing.T) {
	for _, step := range []uint16{0, 2, 3, 99, 100, 2999, 3000, 3001, 32768, 62536, 65436, 65437, 65534, 65535} {
		var s probe.Source
		for n := range uint16(1000) {
			if s.Take(7+n*step) || s.Standing() != (api.Standing{}) || s.Index(7) != 0 {
				t.Fatalf("step %d: taken behind %d", step, n)
			}
		}
		last := 7 + 999*step
		takes(t, &s, true, last+1)
		expect(t, &s, api.Standing{Expected: 1, Received: 1, High: int64(last + 1), Valid: true})
	}
}

// What came in probation isn't counted.
func TestOnlyWhatCameFromTheBeginningOnIsCounted(t *testing.T) {
	s := given(10, 10, 20, 30, 40, 41, 42, 43)
	expect(t, &s, api.Standing{Expected: 3, Received: 3, High: 43, Valid: true})
}

// P17.1: a number by how far it is behind the highest one, of all that may be.

func TestHowFarBehindTheHighest(t *testing.T) {
	for _, high := range edges() {
		s := beginning(t, high)
		checkFar(t, s)
	}
	for _, turns := range []int64{1, 2, 70} {
		s := turned(t, 40000, turns)
		checkFar(t, s)
	}
}

// checkFar gives to copies of a source that has no bad number each number.
func checkFar(t *testing.T, s probe.Source) {
	t.Helper()
	for d := range int64(round) {
		was := s.Standing()
		want := was
		one := s
		if d < maxDropout {
			want.High += d
			want.Expected += d
		}
		came := d < maxDropout || d > lastBad
		if came {
			want.Received++
		}
		got := one.Take(uint16(was.High + d))
		if got != came || one.Standing() != want {
			t.Fatalf("%d behind %+v: %v, %+v; want %v, %+v", d, was, got, one.Standing(), came, want)
		}
	}
}

func TestEdgesOfHowFar(t *testing.T) {
	for _, c := range []struct {
		d    uint16
		ok   bool
		high int64
	}{
		{0, true, 4000}, {1, true, 4001}, {2999, true, 6999},
		{3000, false, 4000}, {3001, false, 4000}, {32767, false, 4000}, {32768, false, 4000}, {32769, false, 4000},
		{65435, false, 4000}, {65436, false, 4000},
		{65437, true, 4000}, {65438, true, 4000}, {65535, true, 4000},
	} {
		s := beginning(t, 4000)
		if ok := s.Take(4000 + c.d); ok != c.ok || s.Standing().High != c.high {
			t.Errorf("%d behind the highest one: %v, %+v", c.d, ok, s.Standing())
		}
	}
}

// A turn more is gone where the number is below the highest one, and only there.
func TestTurns(t *testing.T) {
	for _, high := range []uint16{62537, 63000, 65534, 65535} {
		for d := uint16(1); d < maxDropout; d++ {
			s := beginning(t, high)
			takes(t, &s, true, high+d)
			want := int64(high) + int64(d)
			expect(t, &s, api.Standing{Expected: int64(d) + 1, Received: 2, High: want, Valid: true})
			if want >= round {
				// The number goes back by one: it is late, or comes in the turn that is over, which turns nothing.
				takes(t, &s, true, high+d-1)
				expect(t, &s, api.Standing{Expected: int64(d) + 1, Received: 3, High: want, Valid: true})
			}
		}
	}
}

func TestTheHighestOnceMoreIsNoTurn(t *testing.T) {
	for _, high := range edges() {
		s := beginning(t, high)
		for n := range int64(100) {
			takes(t, &s, true, high)
			expect(t, &s, api.Standing{Expected: 1, Received: n + 2, High: int64(high), Valid: true})
		}
	}
}

// More turns than 16 bits hold, to an index that 32 bits do not.
func TestManyTurns(t *testing.T) {
	s := beginning(t, 5)
	high, came := int64(5), int64(1)
	for range 3_000_000 {
		high, came = high+maxDropout-1, came+1
		if !s.Take(uint16(high)) {
			t.Fatalf("%d isn't taken", high)
		}
	}
	expect(t, &s, api.Standing{Expected: high - 5 + 1, Received: came, High: high, Valid: true})
	if s.Index(uint16(high)) != high || s.Index(uint16(high)+1) != high+1-round {
		t.Errorf("the indices behind %d turns: %d, %d", high/round, s.Index(uint16(high)), s.Index(uint16(high)+1))
	}
}

func TestEachNumberOfSeveralTurns(t *testing.T) {
	s := beginning(t, 65000)
	for n := int64(65001); n < 5*round; n++ {
		takes(t, &s, true, uint16(n))
		expect(t, &s, api.Standing{Expected: n - 65000 + 1, Received: n - 65000 + 1, High: n, Valid: true})
	}
}

// Late ones, and those that come again, are counted, even above what was expected.
func TestLateOnesAreCounted(t *testing.T) {
	s := beginning(t, 20)
	for n := range uint16(99) {
		takes(t, &s, true, 19-n)
		expect(t, &s, api.Standing{Expected: 1, Received: int64(n) + 2, High: 20, Valid: true})
	}
	takes(t, &s, false, 65456)
	expect(t, &s, api.Standing{Expected: 1, Received: 100, High: 20, Valid: true})
}

// P17.1: the bad number.

// A jump of each size: the one behind it begins the source, and so does no other one.
func TestTheBadNumberBeginsTheSource(t *testing.T) {
	for _, high := range []uint16{0, 1, 3000, 30000, 65435, 65535} {
		s := turned(t, high, 1)
		was := s.Standing()
		for d := maxDropout; d <= lastBad; d++ {
			one := s
			far := high + uint16(d)
			takes(t, &one, false, far)
			expect(t, &one, was)
			if d == lastBad {
				// The one behind it is merely late.
				takes(t, &one, true, far+1)
				was.Received++
				expect(t, &one, was)
				continue
			}
			takes(t, &one, true, far+1)
			expect(t, &one, api.Standing{Expected: 1, Received: 1, High: int64(far + 1), Valid: true})
			if one.Index(far+1) != int64(far+1) || one.Index(far+2) != int64(far+2)-round && far+2 != 0 {
				t.Fatalf("behind %d and %d: the indices %d, %d", far, far+1, one.Index(far+1), one.Index(far+2))
			}
		}
	}
}

// Behind the last number comes the first one: that is as bad as others.
func TestTheBadNumberGoesRound(t *testing.T) {
	s := beginning(t, 30000)
	takes(t, &s, false, 65535)
	takes(t, &s, true, 0)
	expect(t, &s, api.Standing{Expected: 1, Received: 1, High: 0, Valid: true})
}

// A far number that isn't the bad one makes another one bad.
func TestAnotherFarNumberMakesAnotherOneBad(t *testing.T) {
	s := beginning(t, 100)
	was := s.Standing()
	takes(t, &s, false, 5000, 5000, 5002, 5001, 9000, 5002, 9001, 8999, 5003)
	expect(t, &s, was)
	takes(t, &s, true, 5004)
	expect(t, &s, api.Standing{Expected: 1, Received: 1, High: 5004, Valid: true})
}

// Whatever far number comes behind one, it is taken only where it is the one behind that.
func TestOnlyTheBadNumberBegins(t *testing.T) {
	s := beginning(t, 10000)
	takes(t, &s, false, 50000)
	for d := maxDropout; d <= lastBad; d++ {
		one := s
		seq := uint16(10000 + d)
		if got := one.Take(seq); got != (seq == 50001) {
			t.Fatalf("%d behind 50000: %v", seq, got)
		}
	}
}

// Nothing is bad at a beginning, so that no far number is taken at once: neither the number 0, nor what was bad ahead of it.
func TestABeginningHasNoBadNumber(t *testing.T) {
	s := beginning(t, 10000)
	takes(t, &s, false, 50000)
	takes(t, &s, true, 50001, 50101)
	expect(t, &s, api.Standing{Expected: 101, Received: 2, High: 50101, Valid: true})
	for d := maxDropout; d <= lastBad; d++ {
		one := s
		takes(t, &one, false, uint16(50101+d))
	}
}

// The bad number stays as it is, whatever is taken meanwhile.
func TestTheBadNumberStays(t *testing.T) {
	for _, between := range [][]uint16{{}, {1000}, {1001}, {999, 998, 901}, {1001, 1001, 1003, 1002, 3000, 5990}, {3999, 6998, 9997}} {
		s := beginning(t, 1000)
		takes(t, &s, false, 40000)
		takes(t, &s, true, between...)
		takes(t, &s, true, 40001)
		expect(t, &s, api.Standing{Expected: 1, Received: 1, High: 40001, Valid: true})
	}
}

// Where the bad number isn't far any more, it is taken as any other one, and is bad still.
func TestTheBadNumberThatIsNear(t *testing.T) {
	s := beginning(t, 1000)
	takes(t, &s, false, 5000)
	takes(t, &s, true, 3000, 5001)
	expect(t, &s, api.Standing{Expected: 4002, Received: 3, High: 5001, Valid: true})
	takes(t, &s, true, 5050, 5001)
	expect(t, &s, api.Standing{Expected: 4051, Received: 5, High: 5050, Valid: true})
	takes(t, &s, true, 5101, 5001)
	expect(t, &s, api.Standing{Expected: 1, Received: 1, High: 5001, Valid: true})
}

// A source that began anew goes on as one that began first.
func TestAsAnyOtherBehindABeginningAnew(t *testing.T) {
	anew, first := turned(t, 10000, 3), beginning(t, 50001)
	takes(t, &anew, false, 50000)
	takes(t, &anew, true, 50001)
	for _, seq := range []uint16{50002, 50000, 52000, 53000, 49000, 55999, 55999, 58000, 61000, 63999, 1000, 999, 4100, 4101, 4102} {
		if x, y := anew.Take(seq), first.Take(seq); x != y || anew.Standing() != first.Standing() {
			t.Errorf("%d: %v, %+v; %v, %+v", seq, x, anew.Standing(), y, first.Standing())
		}
	}
}

// A beginning anew isn't a probation: none but the one number is lacking.
func TestNoProbationAnew(t *testing.T) {
	s := beginning(t, 100)
	takes(t, &s, false, 5000)
	takes(t, &s, true, 5001, 5003, 5000, 5001)
	expect(t, &s, api.Standing{Expected: 3, Received: 4, High: 5003, Valid: true})
}

// P17.2: Index.

func TestIndexIsTheLastOneUpToTheHighest(t *testing.T) {
	for _, turns := range []int64{0, 1, 2, 9} {
		for _, start := range edges() {
			s := turned(t, start, turns)
			high := s.Standing().High
			for d := range int64(round) {
				if got := s.Index(uint16(high - d)); got != high-d {
					t.Fatalf("the index of what is %d ahead of %d: %d", d, high, got)
				}
			}
		}
	}
}

func TestIndexIsBelowZeroAtTimes(t *testing.T) {
	s := beginning(t, 10)
	for _, c := range []struct {
		seq  uint16
		want int64
	}{{10, 10}, {9, 9}, {0, 0}, {11, 11 - round}, {12, 12 - round}, {32768, -32768}, {65534, -2}, {65535, -1}} {
		if got := s.Index(c.seq); got != c.want {
			t.Errorf("the index of %d: %d; want %d", c.seq, got, c.want)
		}
	}
	s = beginning(t, 65535)
	for n := range round {
		if got := s.Index(uint16(n)); got != int64(n) {
			t.Fatalf("the index of %d: %d", n, got)
		}
	}
}

// A number that wasn't taken, or never came, has an index as well, and to be refused doesn't turn it.
func TestIndexOfWhatIsNotTaken(t *testing.T) {
	s := turned(t, 1000, 1)
	takes(t, &s, false, 20000)
	for _, c := range []struct {
		seq  uint16
		want int64
	}{{1000, 66536}, {999, 66535}, {0, 65536}, {65535, 65535}, {20000, 20000}, {20001, 20001}, {1001, 1001}} {
		if got := s.Index(c.seq); got != c.want {
			t.Errorf("the index of %d: %d; want %d", c.seq, got, c.want)
		}
	}
}

func TestIndexIsZeroInProbation(t *testing.T) {
	for _, first := range edges() {
		for _, list := range [][]uint16{{first}, {first, first}, {first, first + 2}, {first, first - 1}, {first, 30000, 10000}} {
			s := given(list...)
			for _, seq := range edges() {
				if got := s.Index(seq); got != 0 {
					t.Errorf("the index of %d behind %v: %d", seq, list, got)
				}
			}
		}
	}
}

func TestToAskTurnsNothing(t *testing.T) {
	for _, list := range [][]uint16{{}, {7}, {7, 7}, {7, 8}, {65535, 0, 9000}, {65534, 65535, 0, 1}, {1, 2, 9000, 9001}} {
		s := given(list...)
		was := s
		for _, seq := range edges() {
			s.Index(seq)
			s.Standing()
		}
		if s != was {
			t.Errorf("behind %v: %+v; was %+v", list, s, was)
		}
	}
}

// P17.3: two numbers one behind the other begin a source; one that jumps far is taken from the second one on.

func TestTwoOneBehindTheOtherBegin(t *testing.T) {
	r := rand.New(rand.NewSource(1))
	for range 20000 {
		var s probe.Source
		last := uint16(r.Intn(round))
		for range r.Intn(6) {
			takes(t, &s, false, last)
			last += uint16(2 + r.Intn(round-2))
		}
		takes(t, &s, false, last)
		takes(t, &s, true, last+1)
		expect(t, &s, api.Standing{Expected: 1, Received: 1, High: int64(last + 1), Valid: true})
	}
}

func TestAJumpIsTakenFromTheSecondOn(t *testing.T) {
	r := rand.New(rand.NewSource(2))
	s := beginning(t, 1234)
	for range 20000 {
		high := s.Standing().High
		// The last one of those that may be is left out: behind it a number is late.
		far := uint16(high) + maxDropout + uint16(r.Intn(lastBad-maxDropout))
		takes(t, &s, false, far)
		run := 1 + r.Intn(5)
		for n := range run {
			takes(t, &s, true, far+1+uint16(n))
		}
		first := int64(far + 1)
		expect(t, &s, api.Standing{Expected: int64(run), Received: int64(run), High: first + int64(run) - 1, Valid: true})
	}
}

// All three together, held against the model.

// Each choice of numbers in each order, up to a few.
func TestAllShortRuns(t *testing.T) {
	list := []uint16{0, 1, 2, 99, 100, 101, 3000, 3001, 3002, 40000, 40001, 62537, 65437, 65438, 65534, 65535}
	var run func(s probe.Source, m model, depth int)
	run = func(s probe.Source, m model, depth int) {
		if depth == 0 {
			return
		}
		for _, seq := range list {
			// A source is copied by being assigned: what is done to the copy doesn't turn it.
			next, other := s, m
			takeBoth(t, &next, &other, seq)
			run(next, other, depth-1)
		}
		compare(t, &s, &m)
	}
	run(probe.Source{}, model{}, 5)
}

func TestRunsByChance(t *testing.T) {
	for seed := range int64(300) {
		r := rand.New(rand.NewSource(seed))
		var s probe.Source
		var m model
		at := uint16(r.Intn(round))
		for range 1000 {
			takeBoth(t, &s, &m, at)
			at = nextByChance(r, uint16(m.maxSeq), m.badSeq, at)
		}
	}
}

// nextByChance: mostly the next number, at times one that is early, late, at an edge, bad, or any one.
func nextByChance(r *rand.Rand, high uint16, bad int, last uint16) uint16 {
	switch r.Intn(16) {
	case 0:
		return high - uint16(r.Intn(110))
	case 1:
		return high + uint16(r.Intn(maxDropout+10))
	case 2:
		return high + uint16(maxDropout-2+r.Intn(4))
	case 3:
		return high - uint16(98+r.Intn(4))
	case 4:
		return uint16(bad)
	case 5:
		return uint16(bad) - 1
	case 6:
		return uint16(r.Intn(round))
	case 7, 8:
		return last + 1
	case 9:
		return edges()[r.Intn(len(edges()))]
	}
	return high + 1
}

// Rules 5 and 6: a copy is a source of its own, and the same done to two makes the same.

func TestSourcesDoNotShare(t *testing.T) {
	a := given(100, 101, 102, 9000)
	b := a
	takes(t, &a, true, 9001, 9002)
	expect(t, &b, api.Standing{Expected: 2, Received: 2, High: 102, Valid: true})
	takes(t, &b, true, 103)
	expect(t, &a, api.Standing{Expected: 2, Received: 2, High: 9002, Valid: true})
}

func TestTheSameDoneMakesTheSame(t *testing.T) {
	var a, b probe.Source
	for _, seq := range []uint16{5, 3, 3, 4, 9000, 9001, 9000, 20000, 9002, 20001, 20001, 65535, 0, 1, 65534} {
		if x, y := a.Take(seq), b.Take(seq); x != y || a != b || a.Standing() != b.Standing() {
			t.Errorf("behind %d: %v and %v", seq, x, y)
		}
	}
}

// The chapter's examples.
func TestExamples(t *testing.T) {
	var s probe.Source
	takes(t, &s, false, 5)
	takes(t, &s, true, 6, 7)
	takes(t, &s, false, 5000)
	takes(t, &s, true, 5001)
	expect(t, &s, api.Standing{Expected: 1, Received: 1, High: 5001, Valid: true})
}

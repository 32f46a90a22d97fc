package remb_test

import (
	"math"
	"math/rand"
	"slices"
	"testing"

	"tenaille/remb"
)

const top = math.MaxUint64

// edges: small rates and costs, and those at the edges of their kinds.
var edges = []uint64{0, 1, 2, 3, 1<<32 - 1, 1 << 32, 1<<63 - 1, 1 << 63, 1<<63 + 1, top - 1, top}

// want holds a sharing against the layers that it must have.
func want(t *testing.T, rate uint64, costs [][]uint64, layers ...int) {
	t.Helper()
	if x := share(t, rate, costs); !slices.Equal(x, layers) {
		t.Fatalf("Share(%d, %v) is %v; want %v", rate, costs, x, layers)
	}
}

func TestTheChaptersExamples(t *testing.T) {
	costs := [][]uint64{{3, 8}, {4, 9}}
	want(t, 10, costs, 0, 0)
	want(t, 12, costs, 1, 0)
}

// P25.1: Share.

func TestNobody(t *testing.T) {
	for _, rate := range edges {
		want(t, rate, nil)
		want(t, rate, [][]uint64{})
	}
}

// Who has no layers has none, and is in nobody's way.
func TestNoLayers(t *testing.T) {
	for _, rate := range edges {
		want(t, rate, [][]uint64{nil}, -1)
		want(t, rate, [][]uint64{{}, nil, {}}, -1, -1, -1)
		want(t, rate, [][]uint64{nil, {0, 0}, {}, {0}}, -1, 1, -1, 0)
	}
}

// One layer: its cost may be as great as the rate, and no greater.
func TestTheEdgeOfARate(t *testing.T) {
	for _, rate := range edges {
		for _, cost := range edges {
			layer := 0
			if cost > rate {
				layer = -1
			}
			want(t, rate, [][]uint64{{cost}}, layer)
		}
	}
}

// The next layer costs what it is above the one that is had.
func TestWhatIsHadIsGivenBack(t *testing.T) {
	want(t, 8, [][]uint64{{3, 8}}, 1)
	want(t, 7, [][]uint64{{3, 8}}, 0)
	want(t, top, [][]uint64{{top - 1, top}}, 1)
	want(t, top-1, [][]uint64{{top - 1, top}}, 0)
	want(t, top, [][]uint64{{1 << 63, top, 1 << 63, top}}, 3)
	want(t, 12, [][]uint64{{3, 8}, {4}}, 1, 0)
	want(t, 11, [][]uint64{{3, 8}, {4}}, 0, 0)
}

// Those with the least layer go ahead, so that all have their first layer ahead of anybody's second one.
func TestTheLeastLayerGoesAhead(t *testing.T) {
	costs := [][]uint64{{1, 2, 3}, {1, 2, 3}, {1, 2, 3}}
	for rate, layers := range [][]int{{-1, -1, -1}, {0, -1, -1}, {0, 0, -1}, {0, 0, 0}, {1, 0, 0}, {1, 1, 0}, {1, 1, 1}, {2, 1, 1}, {2, 2, 1}, {2, 2, 2}, {2, 2, 2}} {
		want(t, uint64(rate), costs, layers...)
	}
	// A cheap second layer doesn't go ahead of a dear first one.
	want(t, 10, [][]uint64{{1, 2}, {9}}, 0, 0)
	want(t, 10, [][]uint64{{9}, {1, 2}}, 0, 0)
	want(t, 11, [][]uint64{{1, 2}, {9}}, 1, 0)
}

// Of those with the same layer the first one goes ahead, be it dearer or not.
func TestTheFirstGoesAhead(t *testing.T) {
	want(t, 5, [][]uint64{{5}, {1}, {1}}, 0, -1, -1)
	want(t, 5, [][]uint64{{1}, {1}, {5}}, 0, 0, -1)
	want(t, 6, [][]uint64{{1, 5}, {1, 2}}, 1, 0)
	want(t, 6, [][]uint64{{1, 2}, {1, 5}}, 1, 0)
}

// Who can't have the next layer is passed over; the others go on.
func TestTooDearIsPassedOver(t *testing.T) {
	want(t, 5, [][]uint64{{6, 1}, {2}, {3}}, -1, 0, 0)
	want(t, 5, [][]uint64{{1, 9}, {1, 2, 3}}, 0, 2)
	want(t, 0, [][]uint64{{1}, {0}, {1}, {0, 0, 1}}, -1, 0, -1, 1)
}

// A layer that is too dear isn't leapt over, even if the one behind it is cheap.
func TestNoLayerIsLeaptOver(t *testing.T) {
	want(t, 10, [][]uint64{{3, 11, 4}}, 0)
	want(t, 10, [][]uint64{{11, 0}}, -1)
	want(t, 11, [][]uint64{{3, 11, 4}}, 2)
}

// A next layer that costs less leaves more: also for those that were passed over.
func TestCheaperLayersLeaveMore(t *testing.T) {
	want(t, 5, [][]uint64{{6}, {5, 2}, {3}}, -1, 1, 0)
	want(t, 5, [][]uint64{{3}, {5, 2}}, 0, -1)
	want(t, 6, [][]uint64{{6, 3}, {5, 2}, {3}}, 1, -1, 0)
	want(t, 5, [][]uint64{{7}, {5, 4, 3, 2, 1, 0}, {5}}, -1, 5, 0)
	want(t, top, [][]uint64{{top, 0}, {top, 0}, {top, 5}}, 1, 1, 1)
}

// Layers that cost nothing, or no more than the one that is had, go at each rate.
func TestWhatCostsNothing(t *testing.T) {
	for _, rate := range edges {
		want(t, rate, [][]uint64{{0}, {0, 0}, {0, 0, 0}}, 0, 1, 2)
		want(t, rate, [][]uint64{{rate, rate, rate}}, 2)
	}
}

// equal is so many subscriptions of so many layers, each at the same cost.
func equal(subs, layers int, cost uint64) [][]uint64 {
	costs := make([][]uint64, subs)
	for i := range costs {
		costs[i] = slices.Repeat([]uint64{cost}, layers)
	}
	return costs
}

func TestAtMostSoManySubscriptions(t *testing.T) {
	for _, subs := range []int{1, 62, 63, 64, 65, 66, 100, 1000} {
		for _, rate := range []uint64{0, 5, 62, 63, 64, 65, 1000, top} {
			layers := share(t, rate, equal(subs, 2, 1))
			for i, layer := range layers {
				has := -1
				if i < 64 && uint64(i) < rate {
					has = 1
				}
				if layer != has {
					t.Fatalf("of %d, by %d: %d at %d; want %d", subs, rate, layer, i, has)
				}
			}
		}
	}
	// Those beyond have none, even where those ahead want nothing.
	costs := slices.Concat(equal(63, 0, 0), [][]uint64{{7}, {0}, {0, 0}})
	layers := share(t, top, costs)
	if len(layers) != 66 || layers[63] != 0 || layers[64] != -1 || layers[65] != -1 {
		t.Fatal(layers)
	}
}

func TestAtMostSoManyLayers(t *testing.T) {
	for many := range 20 {
		want(t, top, equal(2, many, 3), min(many, 8)-1, min(many, 8)-1)
	}
	want(t, 100, [][]uint64{{1, 2, 3, 4, 5, 6, 7, 8, 9}}, 7)
	want(t, 8, [][]uint64{{1, 2, 3, 4, 5, 6, 7, 8, 0}, {1}}, 6, 0)
	want(t, 7, [][]uint64{{1, 2, 3, 4, 5, 6, 7, 8}}, 6)
}

// handed is costs whose lists have spare room, and a copy of all that.
func handed() (costs, was [][]uint64) {
	for i := range 70 {
		of := make([]uint64, 12)
		for k := range of {
			of[k] = uint64(100*i + k)
		}
		costs = append(costs, of[:i%12])
	}
	costs = append(costs, []uint64{5, 6, 7})[:70]
	return costs, whole(costs)
}

// whole is a copy of costs with the spare room.
func whole(costs [][]uint64) [][]uint64 {
	var out [][]uint64
	for _, of := range costs[:cap(costs)] {
		out = append(out, slices.Clone(of[:cap(of)]))
	}
	return out
}

func TestWhatIsHandedInStays(t *testing.T) {
	costs, was := handed()
	layers := []int{3, -1, 0, 7, 8, 1}
	for range 3 {
		for _, rate := range edges {
			remb.Share(rate, costs)
			remb.Cost(costs, layers[:4])
		}
	}
	if !slices.EqualFunc(whole(costs), was, slices.Equal) || !slices.Equal(layers, []int{3, -1, 0, 7, 8, 1}) {
		t.Fatal("what was handed in is another one")
	}
	rates := []uint64{5, 3, 9, 1}
	if remb.Lowest(rates[:3]...) != 3 || !slices.Equal(rates, []uint64{5, 3, 9, 1}) {
		t.Fatal(rates)
	}
}

func TestAnAnswerIsNewMemory(t *testing.T) {
	costs := [][]uint64{{1, 2}, {1, 2}, {1}}
	first := remb.Share(5, costs)
	was := slices.Clone(first)
	second := remb.Share(5, costs)
	for i := range second {
		second[i] = 99
	}
	if !slices.Equal(first, was) {
		t.Fatal(first)
	}
	for i := range first {
		first[i] = 77
	}
	if third := remb.Share(5, costs); !slices.Equal(third, was) {
		t.Fatal(third)
	}
}

// P25.2: Cost.

// wantCost holds the cost of layers against what it must be.
func wantCost(t *testing.T, costs [][]uint64, layers []int, cost uint64) {
	t.Helper()
	if x := remb.Cost(costs, layers); x != cost {
		t.Fatalf("Cost(%v, %v) is %d; want %d", costs, layers, x, cost)
	}
	if model := held(sumOf(costs, layers)); model != cost {
		t.Fatalf("the model of %v, %v is %d; want %d", costs, layers, model, cost)
	}
}

func TestTheCostOfLayers(t *testing.T) {
	costs := [][]uint64{{3, 8}, {4, 9, 1}, nil}
	wantCost(t, costs, []int{0, 0, -1}, 7)
	wantCost(t, costs, []int{1, 0, -1}, 12)
	wantCost(t, costs, []int{1, 2, 0}, 9)
	wantCost(t, costs, []int{-1, 1, 0}, 9)
	wantCost(t, costs, []int{-1, -1, -1}, 0)
}

func TestLayersThatThereAreNot(t *testing.T) {
	costs := [][]uint64{{3, 8}, {}, {4}}
	for _, layer := range []int{math.MinInt, math.MinInt32, -100, -2, -1, 2, 3, 7, 8, 100, math.MaxInt32, math.MaxInt} {
		wantCost(t, costs, []int{layer, layer, 0}, 4)
		wantCost(t, costs, []int{1, layer, layer}, 8)
		wantCost(t, costs, []int{layer, layer, layer}, 0)
	}
	wantCost(t, costs, []int{0, 0, 1}, 3)
}

// One of the lists may be the longer one.
func TestListsOfUnlikeLengths(t *testing.T) {
	costs := [][]uint64{{3, 8}, {4}, {5}}
	for _, c := range [][][]uint64{nil, {}} {
		for _, l := range [][]int{nil, {}, {0}, {0, 1, 2}} {
			wantCost(t, c, l, 0)
		}
	}
	wantCost(t, costs, nil, 0)
	wantCost(t, costs, []int{}, 0)
	wantCost(t, costs, []int{1}, 8)
	wantCost(t, costs, []int{1, 0}, 12)
	wantCost(t, costs, []int{1, 0, 0}, 17)
	wantCost(t, costs, []int{1, 0, 0, 0, 1, -1}, 17)
}

// Here all subscriptions and layers count, those beyond 64 and 8 too.
func TestTheCostHasNoBoundOfSubscriptionsOrLayers(t *testing.T) {
	for _, many := range []int{7, 8, 9, 63, 64, 65, 66, 200} {
		costs := make([][]uint64, many)
		sum := uint64(0)
		for i := range costs {
			for k := range many {
				costs[i] = append(costs[i], uint64(1000*i+k))
			}
			sum += uint64(1000*i + many - 1)
		}
		wantCost(t, costs, slices.Repeat([]int{many - 1}, many), sum)
		alone := slices.Repeat([]int{-1}, many)
		alone[many-1] = many - 1
		wantCost(t, costs, alone, uint64(1001*(many-1)))
	}
}

// A sum that is too great is the greatest number, whatever comes behind it.
func TestTooGreatACost(t *testing.T) {
	for _, a := range edges {
		for _, b := range edges {
			for _, c := range edges {
				costs := [][]uint64{{a}, {b}, {c}}
				layers := []int{0, 0, 0}
				wantCost(t, costs, layers, held(sumOf(costs, layers)))
			}
		}
	}
	wantCost(t, [][]uint64{{top}, {5}}, []int{0, 0}, top)
	wantCost(t, [][]uint64{{top - 5}, {5}}, []int{0, 0}, top)
	wantCost(t, [][]uint64{{top - 5}, {4}}, []int{0, 0}, top-1)
	wantCost(t, [][]uint64{{top - 5}, {6}, {0}}, []int{0, 0, 0}, top)
	wantCost(t, equal(100, 1, 1<<63), slices.Repeat([]int{0}, 100), top)
}

// P25.3: Lowest.

func TestTheLeastRate(t *testing.T) {
	if x := remb.Lowest(); x != top {
		t.Fatal(x)
	}
	if x := remb.Lowest(nil...); x != top {
		t.Fatal(x)
	}
	if x := remb.Lowest([]uint64{}...); x != top {
		t.Fatal(x)
	}
	for _, a := range edges {
		if x := remb.Lowest(a); x != a {
			t.Fatal(a, x)
		}
		for _, b := range edges {
			if x := remb.Lowest(a, b); x != min(a, b) {
				t.Fatal(a, b, x)
			}
			for _, c := range edges {
				if x := remb.Lowest(a, b, c); x != min(a, b, c) {
					t.Fatal(a, b, c, x)
				}
			}
		}
	}
}

// The least of many, wherever it stands.
func TestTheLeastOfMany(t *testing.T) {
	for many := 1; many <= 100; many++ {
		for at := range many {
			rates := slices.Repeat([]uint64{top - 1}, many)
			rates[at] = 7
			if x := remb.Lowest(rates...); x != 7 {
				t.Fatal(many, at, x)
			}
		}
	}
}

// P25.4, and all of P25.1 held against the model (share does both).

// listsOf are all lists of up to so many costs below a bound.
func listsOf(most int, bound uint64) [][]uint64 {
	all := [][]uint64{nil}
	for from, length := 0, 0; length < most; length++ {
		to := len(all)
		for _, of := range all[from:to] {
			for cost := range bound {
				all = append(all, append(slices.Clone(of), cost))
			}
		}
		from = to
	}
	return all
}

func TestAllSmallOnesOfThree(t *testing.T) {
	lists := listsOf(2, 4)
	for _, a := range lists {
		for _, b := range lists {
			for _, c := range lists {
				shares(t, 9, [][]uint64{a, b, c})
			}
		}
	}
}

func TestAllSmallOnesOfTwo(t *testing.T) {
	lists := listsOf(3, 4)
	for _, a := range lists {
		for _, b := range lists {
			shares(t, 7, [][]uint64{a, b})
		}
	}
}

func TestAllAtTheEdgesOfTwo(t *testing.T) {
	var lists [][]uint64
	for _, a := range edges {
		lists = append(lists, []uint64{a})
		for _, b := range edges {
			lists = append(lists, []uint64{a, b})
		}
	}
	for _, a := range lists {
		for _, b := range lists {
			for _, rate := range []uint64{0, 1<<63 - 1, 1 << 63, top - 1, top} {
				share(t, rate, [][]uint64{a, b})
			}
		}
	}
}

// chance is up to so many subscriptions of layers by chance, whose costs rise, or don't.
func chance(r *rand.Rand, most int, bound int64, rising bool) [][]uint64 {
	costs := make([][]uint64, r.Intn(most+1))
	for i := range costs {
		for range r.Intn(11) {
			cost := uint64(r.Int63n(bound))
			if rising && len(costs[i]) > 0 {
				cost = costs[i][len(costs[i])-1] + 1 + cost/8
			}
			costs[i] = append(costs[i], cost)
		}
	}
	return costs
}

func TestManyByChance(t *testing.T) {
	r := rand.New(rand.NewSource(25))
	for run := range 600 {
		bound := []int64{2, 10, 1000, 1 << 40, 1 << 61}[run%5]
		costs := chance(r, []int{2, 5, 12, 80}[run%4], bound, run%3 > 0)
		rate := uint64(r.Int63n(bound)) * uint64(r.Intn(8))
		less := share(t, rate, costs)
		more := share(t, rate+uint64(r.Int63n(bound)), costs)
		if run%3 > 0 {
			keeps(t, costs, less, more)
		}
	}
}

// With a greater rate, where costs rise, nobody's first layer is lost. Here first layers' costs rise too, or stay, from subscription to subscription.
func TestNobodysFirstLayerIsLost(t *testing.T) {
	r := rand.New(rand.NewSource(254))
	for range 300 {
		costs := chance(r, 12, 50, true)
		slices.SortFunc(costs, slices.Compare)
		var less []int
		for rate := range uint64(400) {
			layers := share(t, rate, costs)
			for i := range less {
				if less[i] >= 0 && layers[i] < 0 {
					t.Fatalf("of %v, by %d: %v; by one less %v", costs, rate, layers, less)
				}
			}
			less = layers
		}
	}
}

// What P25.1 asks for where a dearer first layer stands ahead: the greater rate is enough for it, and not for both. P25.4 holds as far as keeps tells.
func TestADearerOneAheadGoesAhead(t *testing.T) {
	want(t, 5, [][]uint64{{6}, {5}}, -1, 0)
	want(t, 6, [][]uint64{{6}, {5}}, 0, -1)
	want(t, 11, [][]uint64{{6}, {5}}, 0, 0)
	want(t, 8, [][]uint64{{9, 10}, {5, 6}, {3, 4}}, -1, 0, 0)
	want(t, 9, [][]uint64{{9, 10}, {5, 6}, {3, 4}}, 0, -1, -1)
}

// Where costs fall, a greater rate may take a first layer away as well.
func TestFallingCostsPromiseNothing(t *testing.T) {
	want(t, 5, [][]uint64{{6, 6}, {5, 2}, {3}}, -1, 1, 0)
	want(t, 6, [][]uint64{{6, 6}, {5, 2}, {3}}, 1, -1, -1)
}

// The dearest and longest that is looked at, and far more than that, ends.
func TestGreatOnesEnd(t *testing.T) {
	want(t, 0, equal(1, 100000, 0), 7)
	if layers := remb.Share(top, equal(100000, 9, 1)); len(layers) != 100000 || layers[63] != 7 || layers[64] != -1 || layers[99999] != -1 {
		t.Fatal(len(layers))
	}
	var falling []uint64
	for i := range uint64(8) {
		falling = append(falling, top-i)
	}
	costs := slices.Repeat([][]uint64{falling}, 64)
	layers := share(t, top, costs)
	if layers[0] != 7 || layers[1] != -1 || layers[63] != -1 {
		t.Fatal(layers)
	}
}

package remb_test

import (
	"math"
	"math/big"
	"slices"
	"testing"

	"tenaille/remb"
)

// large is a number without an end.
func large(x uint64) *big.Int { return new(big.Int).SetUint64(x) }

// price is the cost of a layer by the chapter's words: 0 of none, or of one that there isn't.
func price(of []uint64, layer int) *big.Int {
	for i, cost := range of {
		if i == layer {
			return large(cost)
		}
	}
	return new(big.Int)
}

// sumOf is the sum of the prices of layers; it has no end.
func sumOf(costs [][]uint64, layers []int) *big.Int {
	sum := new(big.Int)
	for i := 0; i < len(costs) && i < len(layers); i++ {
		sum.Add(sum, price(costs[i], layers[i]))
	}
	return sum
}

// held is a sum, or the greatest number if it is above that.
func held(sum *big.Int) uint64 {
	if sum.IsUint64() {
		return sum.Uint64()
	}
	return math.MaxUint64
}

// candidates are those that may have their next layer, those with the least layer first. What is left is reckoned anew of all that is had.
func candidates(rate uint64, costs [][]uint64, layers []int) []int {
	left := new(big.Int).Sub(large(rate), sumOf(costs, layers))
	var who []int
	for i, of := range costs {
		next := layers[i] + 1
		if i > 63 || next > 7 || next == len(of) {
			continue
		}
		if price(of, next).Cmp(new(big.Int).Add(left, price(of, layers[i]))) <= 0 {
			who = append(who, i)
		}
	}
	slices.SortStableFunc(who, func(a, b int) int { return layers[a] - layers[b] })
	return who
}

// shared is a sharing as the chapter says that it is made.
func shared(rate uint64, costs [][]uint64) []int {
	layers := slices.Repeat([]int{-1}, len(costs))
	for {
		who := candidates(rate, costs, layers)
		if len(who) == 0 {
			return layers
		}
		layers[who[0]]++
	}
}

// rise tells whether costs rise, or stay, from layer to layer.
func rise(costs [][]uint64) bool {
	for _, of := range costs {
		if !slices.IsSorted(of) {
			return false
		}
	}
	return true
}

// firstsRise tells whether first layers' costs rise, or stay, from subscription to subscription.
func firstsRise(costs [][]uint64) bool {
	var firsts []uint64
	for _, of := range costs {
		firsts = append(firsts, of[:min(len(of), 1)]...)
	}
	return slices.IsSorted(firsts)
}

// share is what Share tells; it is held against the model, against the rate, and against Cost.
func share(t *testing.T, rate uint64, costs [][]uint64) []int {
	t.Helper()
	layers := remb.Share(rate, costs)
	if want := shared(rate, costs); !slices.Equal(layers, want) {
		t.Fatalf("Share(%d, %v) is %v; want %v", rate, costs, layers, want)
	}
	sum := sumOf(costs, layers)
	if sum.Cmp(large(rate)) > 0 {
		t.Fatalf("Share(%d, %v) is %v, which costs %v", rate, costs, layers, sum)
	}
	if cost := remb.Cost(costs, layers); cost != sum.Uint64() {
		t.Fatalf("Cost(%v, %v) is %d; want %v", costs, layers, cost, sum)
	}
	return layers
}

// keeps holds a sharing of a greater rate against one of a lesser rate, where costs rise from layer to layer. Nobody's first layer is lost, but where a dearer one ahead is had by the greater rate alone: Share's words ask for that.
func keeps(t *testing.T, costs [][]uint64, less, more []int) {
	t.Helper()
	// ahead: the first layers had by the greater rate alone.
	var ahead []uint64
	for i, of := range costs {
		switch {
		case less[i] < 0 && more[i] >= 0:
			ahead = append(ahead, of[0])
		case less[i] >= 0 && more[i] < 0:
			if firstsRise(costs) || len(ahead) == 0 || slices.Min(ahead) <= of[0] {
				t.Fatalf("of %v: %v, with a greater rate %v: %d has lost its first layer", costs, less, more, i)
			}
		}
	}
}

// shares shares each rate up to one, and a few great ones, of the same costs.
func shares(t *testing.T, most uint64, costs [][]uint64) {
	t.Helper()
	rates := []uint64{math.MaxUint64 - 1, math.MaxUint64}
	for rate := range most + 1 {
		rates = append(rates, rate)
	}
	slices.Sort(rates)
	var was [][]int
	for _, rate := range rates {
		layers := share(t, rate, costs)
		if rise(costs) {
			for _, less := range was {
				keeps(t, costs, less, layers)
			}
			was = append(was, layers)
		}
	}
}

package counter_test

import (
	"math"
	"math/big"
	"testing"

	"flowquery/api"
	"flowquery/counter"
)

const top = api.MaxCounter

// numbers are ordinary numbers, the edges of a counter, numbers whose product or sum just reaches or misses an edge, and
// the least and the greatest int.
var numbers = []int{
	math.MinInt, math.MinInt + 1, -top - 1, -top, -top + 1, -7, -2, -1, 0, 1, 2, 3, 5, 7, 10, 1000, 1<<15 - 1, 1 << 15,
	1<<15 + 1, top/2 - 1, top / 2, top/2 + 1, top - 5, top - 1, top, top + 1, math.MaxInt - 1, math.MaxInt,
}

type operation struct {
	name string
	run  func(a, b int) int
	want func(x, y *big.Int) *big.Int
}

func operations() []operation {
	return []operation{
		{"Add", counter.Add, func(x, y *big.Int) *big.Int { return new(big.Int).Add(x, y) }},
		{"Sub", counter.Sub, func(x, y *big.Int) *big.Int { return new(big.Int).Sub(x, y) }},
		{"Mul", counter.Mul, func(x, y *big.Int) *big.Int { return new(big.Int).Mul(x, y) }},
		{"Div", counter.Div, func(x, y *big.Int) *big.Int {
			if y.Sign() == 0 {
				return big.NewInt(top)
			}
			return new(big.Int).Div(x, y)
		}},
	}
}

// nearest is P1.1 on numbers of any size.
func nearest(a *big.Int) *big.Int {
	switch {
	case a.Sign() < 0:
		return new(big.Int)
	case a.Cmp(big.NewInt(top)) > 0:
		return big.NewInt(top)
	}
	return a
}

// eachPair calls check for every pair of numbers.
func eachPair(check func(a, b int)) {
	for _, a := range numbers {
		for _, b := range numbers {
			check(a, b)
		}
	}
}

// P1.1
func TestClamp(t *testing.T) {
	for _, c := range []struct{ a, want int }{
		{0, 0}, {1, 1}, {7, 7}, {123456789, 123456789}, {1 << 29, 1 << 29},
		{-1, 0}, {-7, 0}, {-top, 0}, {math.MinInt + 1, 0}, {math.MinInt, 0},
		{1<<30 - 1, 1<<30 - 1}, {1 << 30, 1 << 30}, {1<<30 + 1, 1 << 30}, {math.MaxInt - 1, 1 << 30}, {math.MaxInt, 1 << 30},
	} {
		if got := counter.Clamp(c.a); got != c.want {
			t.Errorf("Clamp(%d) = %d, want %d", c.a, got, c.want)
		}
	}
}

// P1.1: no other counter is nearer, and a counter stays as it is.
func TestClampIsNearest(t *testing.T) {
	for _, a := range numbers {
		want := nearest(big.NewInt(int64(a))).Int64()
		if got := counter.Clamp(a); int64(got) != want {
			t.Errorf("Clamp(%d) = %d, want %d", a, got, want)
		}
		if got := counter.Clamp(counter.Clamp(a)); got != counter.Clamp(a) {
			t.Errorf("Clamp(Clamp(%d)) = %d, want %d", a, got, counter.Clamp(a))
		}
	}
}

// P1.2: the examples of the chapter, and values that are written out.
func TestOperations(t *testing.T) {
	for _, c := range []struct{ a, b, add, sub, mul, div int }{
		{top, 5, top, top - 5, top, 214748364},
		{3, 5, 8, 0, 15, 0},
		{7, 2, 9, 5, 14, 3},
		{1, 0, 1, 1, 0, top},
		{5, 5, 10, 0, 25, 1},
		{6, 2, 8, 4, 12, 3},
		{1, 2, 3, 0, 2, 0},
		{0, 0, 0, 0, 0, top},
		{0, 7, 7, 0, 0, 0},
		{-7, 2, 2, 0, 0, 0},
		{7, -2, 7, 7, 0, top},
		{-7, -2, 0, 0, 0, top},
		{top - 5, 5, top, top - 10, top, 214748363},
		{top - 1, 2, top, top - 3, top, 536870911},
		{1 << 15, 1 << 15, 1 << 16, 0, top, 1},
		{1<<15 - 1, 1<<15 + 1, 1 << 16, 0, top - 1, 0},
		{top, top, top, 0, top, 1},
		{top + 1, top, top, 0, top, 1},
		{top, top + 1, top, 0, top, 1},
		{1, top, top, 0, top, 0},
		{top - 1, top, top, 0, top, 0},
		{math.MaxInt, 1, top, top - 1, top, top},
		{math.MaxInt, math.MaxInt, top, 0, top, 1},
		{math.MinInt, math.MinInt, 0, 0, 0, top},
		{math.MinInt, math.MaxInt, top, 0, 0, 0},
		{math.MaxInt, math.MinInt, top, top, 0, top},
		{math.MinInt, -1, 0, 0, 0, top},
		{math.MinInt, 1, 1, 0, 0, 0},
	} {
		got := [4]int{counter.Add(c.a, c.b), counter.Sub(c.a, c.b), counter.Mul(c.a, c.b), counter.Div(c.a, c.b)}
		if want := [4]int{c.add, c.sub, c.mul, c.div}; got != want {
			t.Errorf("Add, Sub, Mul, Div of %d, %d = %d, want %d", c.a, c.b, got, want)
		}
	}
}

// P1.2: both arguments are clamped first, and the result is the exact one, clamped.
func TestOperationsAreExact(t *testing.T) {
	for _, o := range operations() {
		eachPair(func(a, b int) {
			x, y := nearest(big.NewInt(int64(a))), nearest(big.NewInt(int64(b)))
			want := nearest(o.want(x, y)).Int64()
			if got := o.run(a, b); int64(got) != want {
				t.Errorf("%s(%d, %d) = %d, want %d", o.name, a, b, got, want)
			}
		})
	}
}

// P0.1: R1 (a result for all arguments; a panic would fail the test), and the same arguments have the same result.
func TestEveryCallHasOneResult(t *testing.T) {
	for _, o := range operations() {
		eachPair(func(a, b int) {
			got := o.run(a, b)
			if got < 0 || got > top {
				t.Errorf("%s(%d, %d) = %d is no counter", o.name, a, b, got)
			}
			if again := o.run(a, b); again != got {
				t.Errorf("%s(%d, %d) = %d, and then %d", o.name, a, b, got, again)
			}
		})
	}
}

// The consequences that the chapter draws for two arguments.
func TestConsequencesForPairs(t *testing.T) {
	eachPair(func(a, b int) {
		if counter.Add(a, b) != counter.Add(b, a) || counter.Mul(a, b) != counter.Mul(b, a) {
			t.Errorf("%d, %d: Add or Mul is not commutative", a, b)
		}
		want := max(counter.Clamp(a), counter.Clamp(b))
		if got := counter.Add(counter.Sub(a, b), b); got != want {
			t.Errorf("Add(Sub(%d, %d), %d) = %d, want %d", a, b, b, got, want)
		}
	})
}

// The consequences that the chapter draws for three arguments. As Add and Mul are commutative, being monotonic in one
// argument is enough.
func TestConsequencesForTriples(t *testing.T) {
	for _, o := range operations() {
		if o.name != "Add" && o.name != "Mul" {
			continue
		}
		eachPair(func(a, b int) {
			for _, c := range numbers {
				if o.run(o.run(a, b), c) != o.run(a, o.run(b, c)) {
					t.Errorf("%s is not associative for %d, %d, %d", o.name, a, b, c)
				}
				if a <= b && o.run(a, c) > o.run(b, c) {
					t.Errorf("%s is not monotonic: %d <= %d, with %d", o.name, a, b, c)
				}
			}
		})
	}
}

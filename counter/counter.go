// Package counter computes with saturating counters: numbers from 0 to api.MaxCounter that never wrap.
// See ../../shared/doc/01-counter.md.
package counter

import (
	"flowquery/api"
)

// The bounds of a counter are of type int64, and so is what is computed from counters before it is clamped: the product
// of two counters needs 61 bits, and even their sum needs more than an int has where it has 32 bits.
const (
	least    int64 = 0
	greatest int64 = api.MaxCounter
)

// Clamp returns the counter that is nearest to a.
func Clamp(a int) int { return int(nearest(int64(a))) }

// Add returns the sum of the counters nearest to a and b.
func Add(a, b int) int {
	x, y := operands(a, b)
	return int(nearest(x + y))
}

// Sub returns the difference of the counters nearest to a and b.
func Sub(a, b int) int {
	x, y := operands(a, b)
	return int(nearest(x - y))
}

// Mul returns the product of the counters nearest to a and b.
func Mul(a, b int) int {
	x, y := operands(a, b)
	return int(nearest(x * y))
}

// Div returns the quotient of the counters nearest to a and b, rounded down, or the greatest counter if b is not
// positive.
func Div(a, b int) int {
	x, y := operands(a, b)
	if y == 0 {
		return int(greatest)
	}
	return int(x / y)
}

func operands(a, b int) (int64, int64) { return nearest(int64(a)), nearest(int64(b)) }

func nearest(a int64) int64 { return min(max(a, least), greatest) }

package witness_test

import (
	"math"
	"math/rand/v2"
	"reflect"
	"slices"
	"strconv"
	"testing"

	"flowquery/api"
	"flowquery/bitset"
	"flowquery/equations"
	"flowquery/fixpoint"
	"flowquery/syntax"
	"flowquery/transfer"
	"flowquery/witness"
)

// parse returns the program of a text that must be well formed.
func parse(t *testing.T, text string) api.Program {
	t.Helper()
	p, line, col, err := syntax.Parse(text)
	if err != api.OK {
		t.Fatalf("Parse(%q) is %v at %d, %d", text, err, line, col)
	}
	return p
}

// setOf returns the set of a text.
func setOf(t *testing.T, text string) api.Set {
	t.Helper()
	s, err := bitset.Parse(text)
	if err != api.OK {
		t.Fatalf("Parse(%q) is %v", text, err)
	}
	return s
}

// setsOf returns the sets of texts.
func setsOf(t *testing.T, texts ...string) []api.Set {
	t.Helper()
	var sets []api.Set
	for _, text := range texts {
		sets = append(sets, setOf(t, text))
	}
	return sets
}

// function returns the function that generates gen, kills kill and makes the copies from, to, from, to and so on.
func function(t *testing.T, gen, kill string, copies ...int) api.Transfer {
	t.Helper()
	f := api.Transfer{Gen: setOf(t, gen), Kill: setOf(t, kill)}
	for pair := range slices.Chunk(copies, 2) {
		f.Copies = append(f.Copies, api.Copy{From: pair[0], To: pair[1]})
	}
	return f
}

// plain returns a system of these dependencies whose functions are identities and whose boundaries are empty.
func plain(t *testing.T, width int, deps ...[]int) api.System {
	t.Helper()
	s := api.System{Width: width, Deps: deps}
	for range deps {
		same, err := transfer.Identity(width)
		if err != api.OK {
			t.Fatalf("Identity(%d) is %v", width, err)
		}
		s.Transfers = append(s.Transfers, same)
		s.Boundary = append(s.Boundary, setOf(t, "/"+strconv.Itoa(width)))
	}
	return s
}

// systemOf returns the system of an analysis of a program that must have one.
func systemOf(t *testing.T, p api.Program, kind int) api.System {
	t.Helper()
	s, err := equations.Of(p, kind)
	if err != api.OK {
		t.Fatalf("the system of the kind %d of %q is %v", kind, syntax.Inline(p), err)
	}
	return s
}

// leastOf returns the least solution of a system that must be valid.
func leastOf(t *testing.T, s api.System) []api.Set {
	t.Helper()
	least, _, err := fixpoint.Solve(s)
	if err != api.OK {
		t.Fatalf("the least solution of %v is %v", s, err)
	}
	return least
}

// hops returns the hops of the numbers node, bit, node, bit and so on.
func hops(numbers ...int) []api.Hop {
	var list []api.Hop
	for pair := range slices.Chunk(numbers, 2) {
		list = append(list, api.Hop{Node: pair[0], Bit: pair[1]})
	}
	return list
}

// full returns as many sets of all bits as a system has unknowns.
func full(t *testing.T, s api.System) []api.Set {
	t.Helper()
	var sets []api.Set
	for range s.Deps {
		all, err := bitset.Full(s.Width)
		if err != api.OK {
			t.Fatalf("Full(%d) is %v", s.Width, err)
		}
		sets = append(sets, all)
	}
	return sets
}

// checkFind compares the first witness for a bit with a written-out one, or with none.
func checkFind(t *testing.T, s api.System, n, bit int, want ...int) {
	t.Helper()
	checkProofs(t, s, n, bit, hops(want...), leastOf(t, s))
}

// checkProofs checks that a bit has the given first witness and no proof that it is absent; or, if there is none, that it has
// such a proof, the least solution.
func checkProofs(t *testing.T, s api.System, n, bit int, want []api.Hop, least []api.Set) {
	t.Helper()
	got, found, err := witness.Find(s, n, bit)
	if err != api.OK || found != (len(want) > 0) || !slices.Equal(got, want) || len(want) == 0 && got != nil {
		t.Fatalf("Find of %d in %d of %v is %v, %v, %v, want %v", bit, n, s, got, found, err, want)
	}
	if witness.Check(s, n, bit, got) != found {
		t.Fatalf("Check of %d in %d of %v and %v is %v", bit, n, s, got, !found)
	}
	values, absent, err := witness.Absent(s, n, bit)
	if err != api.OK || absent == found || absent && !slices.EqualFunc(values, least, bitset.Equal) || !absent && values != nil {
		t.Fatalf("Absent of %d in %d of %v is %v, %v, %v, want %v", bit, n, s, values, absent, err, least)
	}
	if witness.CheckAbsent(s, n, bit, least) == found {
		t.Fatalf("CheckAbsent of %d in %d of %v and the least solution is %v", bit, n, s, found)
	}
}

// P16.1 to P16.3: the examples of the chapter.
func TestExamples(t *testing.T) {
	s := systemOf(t, parse(t, "func m; block b; x = y; use x; return; end"), api.KindReach)
	checkFind(t, s, 3, 0, 2, 0, 3, 0)
	checkFind(t, s, 2, 0, 2, 0)
	checkFind(t, s, 4, 0, 2, 0, 3, 0, 4, 0)
	checkFind(t, s, 1, 0)
	checkFind(t, s, 0, 0)

	s = plain(t, 3, []int{1}, []int{0, 2}, nil)
	s.Transfers[0], s.Transfers[2], s.Boundary[1] = function(t, "2/3", "/3", 2, 0), function(t, "/3", "/3", 0, 2, 1, 2), setOf(t, "0/3")
	for n := range 3 {
		checkFind(t, s, n, 1)
		for bit := range 3 {
			if witness.CheckAbsent(s, n, bit, full(t, s)) {
				t.Errorf("the full sets are accepted for the bit %d of %d", bit, n)
			}
		}
	}
}

// P16.1: each way in which a hop can be the first one.
func TestOrigins(t *testing.T) {
	s := plain(t, 3, nil, []int{0}, []int{1}, []int{3})
	checkFind(t, s, 0, 0)
	s.Boundary[0] = setOf(t, "1/3")
	checkFind(t, s, 0, 1, 0, 1)
	checkFind(t, s, 0, 0)
	checkFind(t, s, 2, 1, 0, 1, 1, 1, 2, 1)
	// Gen of an unknown is an origin in those that depend on it, not in itself, whether it kills the bit or not.
	s.Transfers[1] = function(t, "2/3", "/3")
	checkFind(t, s, 1, 2)
	checkFind(t, s, 2, 2, 2, 2)
	s.Transfers[1] = function(t, "2/3", "2/3")
	checkFind(t, s, 1, 2)
	checkFind(t, s, 2, 2, 2, 2)
	s.Transfers[2] = function(t, "0,1,2/3", "/3")
	checkFind(t, s, 2, 0)
	checkFind(t, s, 3, 0)
	s.Transfers[3] = function(t, "0/3", "/3")
	checkFind(t, s, 3, 0, 3, 0)
	checkFind(t, s, 3, 1)

	// Any of the dependencies can generate the bit; a boundary is enough even where a way leads to the unknown, too.
	s = plain(t, 2, nil, nil, nil, []int{0, 1, 2}, nil)
	for n := range 5 {
		s.Transfers[n] = function(t, "1/2", "/2")
		if n < 3 {
			checkFind(t, s, 3, 1, 3, 1)
		}
		checkFind(t, s, 3, 0)
		s.Transfers[n] = function(t, "/2", "/2")
		checkFind(t, s, 3, 1)
	}
	s.Boundary[0], s.Boundary[3] = setOf(t, "0,1/2"), setOf(t, "0/2")
	checkFind(t, s, 3, 0, 3, 0)
	checkFind(t, s, 3, 1, 0, 1, 3, 1)
}

// P16.1: bits that are kept, killed and copied on the way.
func TestFollowing(t *testing.T) {
	line := plain(t, 3, nil, []int{0}, []int{1})
	line.Boundary[0] = setOf(t, "0/3")
	checkFind(t, line, 2, 0, 0, 0, 1, 0, 2, 0)
	line.Transfers[1] = function(t, "/3", "0/3", 0, 1)
	checkFind(t, line, 2, 0)
	checkFind(t, line, 2, 1, 0, 0, 1, 0, 2, 1)
	checkFind(t, line, 2, 2)
	line.Transfers[1] = function(t, "/3", "0/3", 0, 0, 0, 2)
	checkFind(t, line, 2, 0, 0, 0, 1, 0, 2, 0)
	checkFind(t, line, 2, 1)
	checkFind(t, line, 2, 2, 0, 0, 1, 0, 2, 2)
	// Kill takes away the bit itself only, not what is copied to it or from it.
	line.Transfers[0], line.Transfers[1] = function(t, "/3", "0,1,2/3", 0, 1), function(t, "/3", "0,1,2/3", 1, 0)
	checkFind(t, line, 1, 0)
	checkFind(t, line, 1, 1, 0, 0, 1, 1)
	checkFind(t, line, 2, 0, 0, 0, 1, 1, 2, 0)
	checkFind(t, line, 2, 1)
	// The function is that of the unknown that is depended on, not that of the one that depends.
	line.Transfers[0], line.Transfers[1], line.Transfers[2] = function(t, "/3", "/3"), function(t, "/3", "/3"), function(t, "0,1,2/3", "0,1,2/3", 0, 1)
	checkFind(t, line, 2, 0, 0, 0, 1, 0, 2, 0)
	checkFind(t, line, 2, 1)

	// An unknown that depends on itself is there several times.
	loop := plain(t, 4, []int{0})
	loop.Boundary[0], loop.Transfers[0] = setOf(t, "3/4"), function(t, "/4", "0,1,2,3/4", 0, 2, 1, 0, 3, 1)
	checkFind(t, loop, 0, 3, 0, 3)
	checkFind(t, loop, 0, 2, 0, 3, 0, 1, 0, 0, 0, 2)
	loop.Transfers[0].Copies = append(loop.Transfers[0].Copies, api.Copy{From: 3, To: 2})
	checkFind(t, loop, 0, 2, 0, 3, 0, 2)
	loop.Boundary[0] = setOf(t, "/4")
	for bit := range 4 {
		checkFind(t, loop, 0, bit)
	}

	// A bit has to go around twice, and changes each time.
	around := plain(t, 3, []int{2}, []int{0}, []int{1})
	around.Boundary[1], around.Transfers[2] = setOf(t, "2/3"), function(t, "/3", "/3", 1, 0, 2, 1)
	checkFind(t, around, 2, 0, 1, 2, 2, 2, 0, 1, 1, 1, 2, 1, 0, 0, 1, 0, 2, 0)
}

// P16.1: the fewest hops come first, then the first of them, from the first hop on.
func TestFirst(t *testing.T) {
	// Fewer hops, though the numbers of the others are smaller.
	s := plain(t, 2, nil, []int{0}, []int{1, 3}, nil)
	s.Boundary[0], s.Boundary[3] = setOf(t, "0/2"), setOf(t, "0/2")
	checkFind(t, s, 2, 0, 3, 0, 2, 0)
	s.Boundary[1] = setOf(t, "0/2")
	checkFind(t, s, 2, 0, 1, 0, 2, 0)
	s.Boundary[1] = setOf(t, "1/2")
	checkFind(t, s, 2, 0, 3, 0, 2, 0)
	s.Boundary[3] = setOf(t, "1/2")
	checkFind(t, s, 2, 0, 0, 0, 1, 0, 2, 0)

	// The first hop counts before the others: 0 by way of 4 comes before 1 by way of 3, and each bit after the node.
	s = plain(t, 3, nil, nil, nil, []int{1, 2}, []int{0, 2}, []int{3, 4})
	s.Boundary[0], s.Boundary[1], s.Boundary[2] = setOf(t, "2/3"), setOf(t, "0/3"), setOf(t, "0,1,2/3")
	s.Transfers[0], s.Transfers[2] = function(t, "/3", "/3", 2, 0), function(t, "/3", "/3", 1, 0)
	checkFind(t, s, 5, 0, 0, 2, 4, 0, 5, 0)
	s.Transfers[0] = function(t, "/3", "/3")
	checkFind(t, s, 5, 0, 1, 0, 3, 0, 5, 0)
	checkFind(t, s, 5, 2, 0, 2, 4, 2, 5, 2)
	checkFind(t, s, 5, 1, 2, 1, 3, 1, 5, 1)
	s.Boundary[1] = setOf(t, "/3")
	checkFind(t, s, 5, 0, 2, 0, 3, 0, 5, 0)
	s.Boundary[2] = setOf(t, "1,2/3")
	checkFind(t, s, 5, 0, 2, 1, 3, 0, 5, 0)
	s.Transfers[3], s.Transfers[4] = function(t, "/3", "0/3"), function(t, "/3", "0/3", 0, 0)
	checkFind(t, s, 5, 0, 2, 1, 4, 0, 5, 0)

	// Where two witnesses begin with the same hops, the first hop that differs counts, not the ones after it.
	s = plain(t, 3, nil, []int{0}, []int{1}, []int{1}, []int{2, 3}, []int{4})
	s.Boundary[0] = setOf(t, "0/3")
	s.Transfers[1], s.Transfers[2], s.Transfers[3] = function(t, "/3", "0/3", 0, 1, 0, 2), function(t, "/3", "1,2/3", 2, 0), function(t, "/3", "/3", 1, 0)
	checkFind(t, s, 5, 0, 0, 0, 1, 0, 2, 2, 4, 0, 5, 0)
	s.Transfers[2].Copies = nil
	checkFind(t, s, 5, 0, 0, 0, 1, 0, 3, 1, 4, 0, 5, 0)
	s.Transfers[3].Copies = append(s.Transfers[3].Copies, api.Copy{From: 2, To: 0})
	checkFind(t, s, 5, 0, 0, 0, 1, 0, 3, 1, 4, 0, 5, 0)

	// Of the bits of one unknown, the least one, though it comes to the goal by a copy and another one is kept.
	s = plain(t, 4, nil, []int{0})
	s.Boundary[0], s.Transfers[0] = setOf(t, "1,2,3/4"), function(t, "/4", "/4", 1, 3, 2, 3)
	checkFind(t, s, 1, 3, 0, 1, 1, 3)
	s.Boundary[0] = setOf(t, "2,3/4")
	checkFind(t, s, 1, 3, 0, 2, 1, 3)
	s.Boundary[0] = setOf(t, "3/4")
	checkFind(t, s, 1, 3, 0, 3, 1, 3)
}

// checkIs checks that a list of hops is a witness for a bit, or is not.
func checkIs(t *testing.T, s api.System, n, bit int, want bool, numbers ...int) {
	t.Helper()
	if got := witness.Check(s, n, bit, hops(numbers...)); got != want {
		t.Errorf("Check of %d in %d of %v and %v is %v", bit, n, s, hops(numbers...), got)
	}
}

// P16.2: witnesses, also those that Find does not return, and lists that are none.
func TestCheck(t *testing.T) {
	s := plain(t, 3, []int{2}, []int{0, 1}, []int{1}, nil)
	s.Boundary[0], s.Transfers[2], s.Transfers[1] = setOf(t, "0/3"), function(t, "2/3", "0/3", 0, 1), function(t, "/3", "2/3")
	checkIs(t, s, 0, 0, true, 0, 0)
	checkIs(t, s, 0, 2, true, 0, 2)
	checkIs(t, s, 1, 0, true, 0, 0, 1, 0)
	checkIs(t, s, 2, 0, true, 0, 0, 1, 0, 2, 0)
	checkIs(t, s, 0, 1, true, 0, 0, 1, 0, 2, 0, 0, 1)
	// More hops than are needed, hops that are there again, and hops with an origin after the first one.
	checkIs(t, s, 1, 0, true, 0, 0, 1, 0, 1, 0, 1, 0)
	checkIs(t, s, 0, 1, true, 0, 0, 1, 0, 1, 0, 2, 0, 0, 1)
	checkIs(t, s, 0, 1, true, 0, 0, 1, 0, 2, 0, 0, 1, 1, 1, 2, 1, 0, 1)
	s.Boundary[1] = setOf(t, "0/3")
	checkIs(t, s, 2, 0, true, 1, 0, 2, 0)
	checkIs(t, s, 2, 0, true, 0, 0, 1, 0, 2, 0)

	// No hops; another last one; a first one without an origin.
	checkIs(t, s, 0, 0, false)
	checkIs(t, s, 3, 0, false)
	checkIs(t, s, 0, 0, false, 0, 0, 1, 0)
	checkIs(t, s, 1, 0, false, 0, 0)
	checkIs(t, s, 0, 2, false, 0, 0)
	checkIs(t, s, 2, 0, false, 2, 0)
	checkIs(t, s, 2, 2, false, 2, 2)
	checkIs(t, s, 0, 1, false, 2, 0, 0, 1)
	checkIs(t, s, 0, 1, false, 0, 1)
	// A dependency that is not there, in the first, the last or another place; or only in the other direction.
	checkIs(t, s, 2, 0, false, 0, 0, 2, 0)
	checkIs(t, s, 3, 0, false, 0, 0, 1, 0, 2, 0, 3, 0)
	checkIs(t, s, 0, 1, false, 0, 0, 2, 0, 0, 1)
	checkIs(t, s, 0, 0, false, 0, 0, 0, 0)
	checkIs(t, s, 0, 0, false, 1, 0, 0, 0)
	checkIs(t, s, 2, 0, false, 0, 0, 1, 0, 3, 0, 2, 0)
	// A bit that does not follow: it is killed, or not copied, or only in the other direction.
	checkIs(t, s, 0, 0, false, 0, 0, 1, 0, 2, 0, 0, 0)
	checkIs(t, s, 2, 2, false, 0, 2, 1, 2, 2, 2)
	checkIs(t, s, 2, 1, false, 0, 0, 1, 0, 2, 1)
	checkIs(t, s, 1, 1, false, 0, 0, 1, 1)
	checkIs(t, s, 0, 2, false, 0, 0, 1, 0, 2, 0, 0, 2)
	s.Boundary[2] = setOf(t, "1/3")
	checkIs(t, s, 0, 1, true, 2, 1, 0, 1)
	checkIs(t, s, 0, 0, false, 2, 1, 0, 0)
}

// P16.2, R1: hops that are no bits of unknowns, at each place; and unknowns and bits that there are not.
func TestCheckNoHops(t *testing.T) {
	s := plain(t, 2, []int{0}, []int{0})
	s.Boundary[0] = setOf(t, "0,1/2")
	checkIs(t, s, 1, 1, true, 0, 1, 0, 1, 1, 1)
	for _, number := range []int{-1, -2, 2, 3, 64, 128, 255, 256, 1 << 32, math.MinInt, math.MaxInt} {
		checkIs(t, s, 1, 1, false, number, 1, 0, 1, 1, 1)
		checkIs(t, s, 1, 1, false, 0, number, 0, 1, 1, 1)
		checkIs(t, s, 1, 1, false, 0, 1, number, 1, 1, 1)
		checkIs(t, s, 1, 1, false, 0, 1, 0, number, 1, 1)
		checkIs(t, s, 1, 1, false, 0, 1, 0, 1, number, 1)
		checkIs(t, s, 1, 1, false, 0, 1, 0, 1, 1, number)
		checkIs(t, s, number, 1, false, 0, 1, 0, 1, number, 1)
		checkIs(t, s, 1, number, false, 0, 1, 0, 1, 1, number)
		checkIs(t, s, number, 1, false, number, 1)
		checkIs(t, s, 0, number, false, 0, number)
		checkIs(t, s, number, number, false, number, number)
	}
}

// P16.3: lists of values that are above a system, and lists that are not.
func TestCheckAbsent(t *testing.T) {
	s := plain(t, 2, []int{1}, []int{0}, []int{1}, nil)
	s.Boundary[1], s.Transfers[1], s.Transfers[2] = setOf(t, "0/2"), function(t, "/2", "0/2"), function(t, "0,1/2", "/2")
	for _, c := range []struct {
		n, bit int
		want   bool
		values []string
	}{
		{0, 0, true, []string{"/2", "0/2", "/2", "/2"}},
		{1, 0, false, []string{"/2", "0/2", "/2", "/2"}},
		{1, 1, true, []string{"/2", "0/2", "/2", "/2"}},
		{2, 1, true, []string{"/2", "0/2", "/2", "/2"}},
		{3, 0, true, []string{"/2", "0/2", "/2", "/2"}},
		// Above the system, but not the least solution, or no solution.
		{0, 0, true, []string{"1/2", "0,1/2", "1/2", "/2"}},
		{0, 1, false, []string{"1/2", "0,1/2", "1/2", "/2"}},
		{2, 0, true, []string{"0,1/2", "0,1/2", "1/2", "0,1/2"}},
		{2, 1, false, []string{"0,1/2", "0,1/2", "1/2", "0,1/2"}},
		{3, 1, true, []string{"0,1/2", "0,1/2", "0,1/2", "0/2"}},
		{3, 0, false, []string{"0,1/2", "0,1/2", "0,1/2", "0/2"}},
		// Not above it, for the unknown or for another one.
		{1, 0, false, []string{"/2", "/2", "/2", "/2"}},
		{0, 0, false, []string{"/2", "/2", "/2", "/2"}},
		{0, 0, false, []string{"/2", "1/2", "/2", "/2"}},
		{3, 0, false, []string{"1/2", "0/2", "/2", "/2"}},
		{1, 1, false, []string{"1/2", "0/2", "/2", "/2"}},
		{0, 1, false, []string{"/2", "0,1/2", "1/2", "/2"}},
		{0, 0, false, []string{"1/2", "0,1/2", "/2", "/2"}},
	} {
		if got := witness.CheckAbsent(s, c.n, c.bit, setsOf(t, c.values...)); got != c.want {
			t.Errorf("CheckAbsent of %d in %d and %v is %v", c.bit, c.n, c.values, got)
		}
	}
}

// P16.3, R1: values that are too many or too few, or no sets of the width, at each place; and unknowns and bits that there
// are not.
func TestCheckAbsentInvalid(t *testing.T) {
	s := plain(t, 2, nil, []int{0}, nil)
	fine := leastOf(t, s)
	for n := range 3 {
		if !witness.CheckAbsent(s, n, 1, fine) {
			t.Errorf("the least solution is not accepted for %d", n)
		}
		for _, bad := range []api.Set{{}, {Width: 2}, {Width: 2, Words: []uint64{4}}, {Width: 2, Words: []uint64{0, 0}}, {Width: -1}, {Width: 257, Words: make([]uint64, 5)}, {Width: math.MaxInt}, setOf(t, "/1"), setOf(t, "/3"), setOf(t, "/66")} {
			values := slices.Clone(fine)
			values[n] = bad
			for m := range 3 {
				if witness.CheckAbsent(s, m, 1, values) {
					t.Errorf("%v is accepted for %d", values, m)
				}
			}
		}
		for _, values := range [][]api.Set{nil, {}, fine[:1], fine[:2], append(slices.Clone(fine), fine[0])} {
			if witness.CheckAbsent(s, n, 1, values) {
				t.Errorf("%d values are accepted for %d", len(values), n)
			}
		}
	}
	for _, number := range []int{-1, -2, 3, 64, 255, 256, math.MinInt, math.MaxInt} {
		if witness.CheckAbsent(s, number, 1, fine) || witness.CheckAbsent(s, 1, number, fine) || witness.CheckAbsent(s, number, number, fine) {
			t.Errorf("an unknown or a bit %d is accepted", number)
		}
	}
	if witness.CheckAbsent(s, 3, 1, append(slices.Clone(fine), fine[0])) || witness.CheckAbsent(s, 1, 2, fine) {
		t.Error("the first unknown or bit that there is not is accepted")
	}
}

// checkError checks that Find and Absent return an error, and that neither kind of proof is accepted.
func checkError(t *testing.T, s api.System, n, bit int, want api.Errno) {
	t.Helper()
	if list, found, err := witness.Find(s, n, bit); list != nil || found || err != want {
		t.Errorf("Find of %d in %d of %v is %v, %v, %v, want %v", bit, n, s, list, found, err, want)
	}
	if values, absent, err := witness.Absent(s, n, bit); values != nil || absent || err != want {
		t.Errorf("Absent of %d in %d of %v is %v, %v, %v, want %v", bit, n, s, values, absent, err, want)
	}
	for _, list := range [][]api.Hop{nil, {}, {{Node: n, Bit: bit}}, {{}, {Node: n, Bit: bit}}, {{Node: n, Bit: bit}, {Node: n, Bit: bit}}, {{Node: -1, Bit: -1}}} {
		if witness.Check(s, n, bit, list) {
			t.Errorf("Check of %d in %d of %v and %v is true", bit, n, s, list)
		}
	}
	for _, values := range [][]api.Set{nil, {}, s.Boundary, {{Width: -1}}, slices.Repeat([]api.Set{{}}, len(s.Deps)), slices.Repeat([]api.Set{setOf(t, "/2")}, len(s.Deps))} {
		if witness.CheckAbsent(s, n, bit, values) {
			t.Errorf("CheckAbsent of %d in %d of %v and %v is true", bit, n, s, values)
		}
	}
}

// P16.1, P16.3, R4, R5: numbers that are no unknowns or no bits; of the errors, that of the unknown comes first.
func TestErrors(t *testing.T) {
	for _, width := range []int{0, 1, 2, 63, 64, 65, 255, 256} {
		s := plain(t, width, []int{0, 1}, nil, []int{0})
		for n := range s.Boundary {
			s.Boundary[n], _ = bitset.Full(width)
		}
		for _, bit := range []int{-1, width, width + 1, width + 64, math.MinInt, math.MaxInt} {
			for n := range 3 {
				checkError(t, s, n, bit, api.ErrRange)
			}
		}
		for _, n := range []int{-1, 3, 4, 256, math.MinInt, math.MaxInt} {
			for _, bit := range []int{0, width - 1, -1, width, math.MinInt, math.MaxInt} {
				checkError(t, s, n, bit, api.ErrNode)
			}
		}
		if width > 0 {
			checkFind(t, s, 2, 0, 2, 0)
			checkFind(t, s, 0, width-1, 0, width-1)
		}
	}
}

// P16.1 to P16.3, R1, R4, R5: systems that are not valid, also where there are no such unknowns and bits.
func TestInvalid(t *testing.T) {
	bad := api.Set{Width: 2, Words: []uint64{4}}
	for _, change := range []func(s *api.System){
		func(s *api.System) { *s = api.System{} }, func(s *api.System) { *s = api.System{Width: 2} }, func(s *api.System) { s.Width = 3 }, func(s *api.System) { s.Width = -1 }, func(s *api.System) { s.Width = 257 },
		func(s *api.System) { s.Deps = s.Deps[:1] }, func(s *api.System) { s.Deps = append(s.Deps, nil) }, func(s *api.System) { s.Transfers = s.Transfers[:1] }, func(s *api.System) { s.Boundary = nil },
		func(s *api.System) { s.Deps[0] = []int{1, 0} }, func(s *api.System) { s.Deps[0] = []int{1, 1} }, func(s *api.System) { s.Deps[1] = []int{2} }, func(s *api.System) { s.Deps[1] = []int{-1} },
		func(s *api.System) { s.Deps[1] = []int{math.MaxInt} }, func(s *api.System) { s.Deps[1] = []int{math.MinInt} }, func(s *api.System) { s.Boundary[1] = bad }, func(s *api.System) { s.Boundary[0] = api.Set{} },
		func(s *api.System) { s.Boundary[0] = setOf(t, "/3") }, func(s *api.System) { s.Transfers[1] = api.Transfer{} }, func(s *api.System) { s.Transfers[0].Gen = bad }, func(s *api.System) { s.Transfers[1].Kill = bad },
		func(s *api.System) { s.Transfers[0].Copies = []api.Copy{{To: 2}} }, func(s *api.System) { s.Transfers[0].Copies = []api.Copy{{From: 1}, {From: 0}} },
		func(s *api.System) { s.Deps = slices.Repeat([][]int{nil}, 257) }, func(s *api.System) { s.Boundary = append(s.Boundary, s.Boundary[0]) },
	} {
		s := plain(t, 2, []int{0, 1}, []int{0})
		s.Boundary[0] = setOf(t, "0,1/2")
		checkFind(t, s, 0, 0, 0, 0)
		change(&s)
		for _, n := range []int{0, 1, -1, 2, math.MaxInt} {
			for _, bit := range []int{0, 1, -1, 2, math.MinInt} {
				checkError(t, s, n, bit, api.ErrInvalid)
			}
		}
	}
}

// R3: a nil list and an empty one are equal.
func TestEmptyLists(t *testing.T) {
	for _, list := range [][]int{nil, {}} {
		for _, copies := range [][]api.Copy{nil, {}} {
			s := plain(t, 1, list)
			s.Transfers[0].Copies = copies
			checkFind(t, s, 0, 0)
			s.Boundary[0] = setOf(t, "0/1")
			checkFind(t, s, 0, 0, 0, 0)
		}
	}
	empty := plain(t, 0, nil)
	for _, words := range [][]uint64{nil, {}} {
		empty.Boundary[0].Words, empty.Transfers[0].Gen.Words, empty.Transfers[0].Kill.Words = words, words, words
		checkError(t, empty, 0, 0, api.ErrRange)
		checkError(t, empty, 1, 0, api.ErrNode)
	}
}

func copiedSet(s api.Set) api.Set { return api.Set{Width: s.Width, Words: slices.Clone(s.Words)} }

// copied returns a system that is equal and shares no memory.
func copied(s api.System) api.System {
	c := api.System{Width: s.Width}
	for n, f := range s.Transfers {
		c.Deps = append(c.Deps, slices.Clone(s.Deps[n]))
		c.Boundary = append(c.Boundary, copiedSet(s.Boundary[n]))
		c.Transfers = append(c.Transfers, api.Transfer{Gen: copiedSet(f.Gen), Kill: copiedSet(f.Kill), Copies: slices.Clone(f.Copies)})
	}
	return c
}

// places collects the places of elements of slices, and those that are there more than once.
type places struct {
	seen   map[any]bool
	shared int
}

func addAll[T any](p *places, list []T) {
	list = list[:cap(list)]
	for i := range list {
		if p.seen[&list[i]] {
			p.shared++
		}
		p.seen[&list[i]] = true
	}
}

func (p *places) addSets(sets []api.Set) {
	addAll(p, sets)
	for _, s := range sets {
		addAll(p, s.Words)
	}
}

func (p *places) addSystem(s api.System) {
	addAll(p, s.Deps)
	for _, list := range s.Deps {
		addAll(p, list)
	}
	addAll(p, s.Transfers)
	for _, f := range s.Transfers {
		addAll(p, f.Gen.Words)
		addAll(p, f.Kill.Words)
		addAll(p, f.Copies)
	}
	p.addSets(s.Boundary)
}

// R2: no function modifies its arguments, and no results share memory with each other, with an argument or within themselves.
func TestMemory(t *testing.T) {
	r := rand.New(rand.NewPCG(16, 1))
	memory := places{seen: map[any]bool{}}
	for range 200 {
		s := someSystem(r, 1+r.IntN(70), 1+r.IntN(8))
		memory.addSystem(s)
		before := copied(s)
		for range 4 {
			n, bit := r.IntN(len(s.Deps)), r.IntN(s.Width)
			list, found, _ := witness.Find(s, n, bit)
			values, absent, _ := witness.Absent(s, n, bit)
			addAll(&memory, list)
			memory.addSets(values)
			listBefore := slices.Clone(list)
			if witness.Check(s, n, bit, list) != found || !slices.Equal(list, listBefore) {
				t.Errorf("Check of %v is not %v, or modified it", listBefore, found)
			}
			var valuesBefore []api.Set
			for _, v := range values {
				valuesBefore = append(valuesBefore, copiedSet(v))
			}
			if witness.CheckAbsent(s, n, bit, values) != absent || !slices.EqualFunc(values, valuesBefore, bitset.Equal) {
				t.Errorf("CheckAbsent of %v is not %v, or modified it", valuesBefore, absent)
			}
		}
		if !reflect.DeepEqual(copied(s), before) {
			t.Errorf("the system %v was modified", before)
		}
	}
	if memory.shared > 0 || len(memory.seen) == 0 {
		t.Errorf("%d elements of slices are shared", memory.shared)
	}
}

package cone_test

import (
	"math"
	"math/rand/v2"
	"reflect"
	"slices"
	"strconv"
	"testing"

	"flowquery/api"
	"flowquery/bitset"
	"flowquery/cone"
	"flowquery/equations"
	"flowquery/fixpoint"
	"flowquery/syntax"
	"flowquery/transfer"
	"flowquery/validate"
)

// setOf returns the set of a text.
func setOf(t *testing.T, text string) api.Set {
	t.Helper()
	s, err := bitset.Parse(text)
	if err != api.OK {
		t.Fatalf("Parse(%q) is %v", text, err)
	}
	return s
}

// function returns the function that generates gen, kills kill and makes the copies from, to, from, to and so on.
func function(t *testing.T, gen, kill string, copies ...int) api.Transfer {
	t.Helper()
	f := api.Transfer{Gen: setOf(t, gen), Kill: setOf(t, kill)}
	for pair := range slices.Chunk(copies, 2) {
		f.Copies = append(f.Copies, api.Copy{From: pair[0], To: pair[1]})
	}
	return f
}

// plain returns a system of these dependencies whose functions are identities and whose boundaries are empty.
func plain(t *testing.T, width int, deps ...[]int) api.System {
	t.Helper()
	s := api.System{Width: width, Deps: deps}
	for range deps {
		same, err := transfer.Identity(width)
		if err != api.OK {
			t.Fatalf("Identity(%d) is %v", width, err)
		}
		s.Transfers = append(s.Transfers, same)
		s.Boundary = append(s.Boundary, setOf(t, "/"+strconv.Itoa(width)))
	}
	return s
}

// sameFunction reports whether functions are equal as values.
func sameFunction(f, g api.Transfer) bool {
	return bitset.Equal(f.Gen, g.Gen) && bitset.Equal(f.Kill, g.Kill) && slices.Equal(f.Copies, g.Copies)
}

// sameSystem reports whether systems are equal as values.
func sameSystem(r, s api.System) bool {
	return r.Width == s.Width && slices.EqualFunc(r.Deps, s.Deps, slices.Equal[[]int]) &&
		slices.EqualFunc(r.Transfers, s.Transfers, sameFunction) && slices.EqualFunc(r.Boundary, s.Boundary, bitset.Equal)
}

// checkOf compares a cone and the cost of its demand with written-out ones.
func checkOf(t *testing.T, s api.System, root int, leaves []int, wantCost int, want ...int) {
	t.Helper()
	if list, cost, err := cone.Of(s, root, leaves); err != api.OK || cost != wantCost || !slices.Equal(list, want) {
		t.Errorf("the cone of %d in %v with the leaves %v is %v, %d, %v, want %v, %d", root, s.Deps, leaves, list, cost, err, want, wantCost)
	}
}

// P14.1: cones and the costs of their demands.
func TestOf(t *testing.T) {
	checkOf(t, plain(t, 0, nil), 0, nil, 1, 0)
	// An unknown that depends on itself is there once, but that costs.
	checkOf(t, plain(t, 0, []int{0}), 0, nil, 2, 0)
	checkOf(t, plain(t, 0, []int{0}), 0, []int{0}, 1, 0)
	checkOf(t, plain(t, 0, nil, nil), 1, []int{0}, 1, 1)

	// Deps are appended in their order, and expanded in the order of the list: breadth first, not depth first.
	s := plain(t, 1, []int{2, 4}, []int{0, 5}, []int{1, 3}, []int{6}, []int{3, 5}, nil, []int{0})
	checkOf(t, s, 0, nil, 17, 0, 2, 4, 1, 3, 5, 6)
	checkOf(t, s, 1, nil, 17, 1, 0, 5, 2, 4, 3, 6)
	checkOf(t, s, 4, nil, 17, 4, 3, 5, 6, 0, 2, 1)
	checkOf(t, s, 5, nil, 1, 5)
	// Leaves are in the cone where something leads to them; what only they depend on is not.
	checkOf(t, s, 0, []int{2}, 12, 0, 2, 4, 3, 5, 6)
	checkOf(t, s, 0, []int{4, 1}, 12, 0, 2, 4, 1, 3, 6)
	checkOf(t, s, 0, []int{2, 4}, 5, 0, 2, 4)
	checkOf(t, s, 3, []int{0}, 5, 3, 6, 0)
	checkOf(t, s, 6, []int{3, 2, 4}, 7, 6, 0, 2, 4)
	checkOf(t, s, 2, []int{2}, 1, 2)
	checkOf(t, s, 2, []int{6}, 16, 2, 1, 3, 0, 5, 6, 4)
	// Leaves without Deps change nothing, nor do those that nothing leads to.
	checkOf(t, s, 0, []int{5}, 17, 0, 2, 4, 1, 3, 5, 6)
	checkOf(t, s, 5, []int{0, 1, 2, 3, 4, 6}, 1, 5)
	// In any order and repeated.
	checkOf(t, s, 0, []int{6, 1, 6, 1, 1}, 14, 0, 2, 4, 1, 3, 5, 6)
	checkOf(t, s, 0, []int{1, 6}, 14, 0, 2, 4, 1, 3, 5, 6)
	checkOf(t, s, 0, []int{4, 3, 2, 1, 0, 0, 1, 2}, 1, 0)
}

// P14.1: the examples of the chapter.
func TestExamples(t *testing.T) {
	line := plain(t, 2, nil, []int{0}, []int{1}, []int{2})
	checkOf(t, line, 2, nil, 5, 2, 1, 0)
	checkOf(t, line, 2, []int{1}, 3, 2, 1)
	for n := range line.Deps {
		checkOf(t, line, n, []int{n}, 1, n)
	}
}

// checkClosed checks that a set is closed, or is not.
func checkClosed(t *testing.T, s api.System, set, leaves []int, want bool) {
	t.Helper()
	if got := cone.Closed(s, set, leaves); got != want {
		t.Errorf("Closed of %v with the leaves %v in %v is %v", set, leaves, s.Deps, got)
	}
}

// P14.2: closed sets.
func TestClosed(t *testing.T) {
	s := plain(t, 1, []int{1, 2}, []int{3}, nil, []int{1}, []int{0, 4})
	checkClosed(t, s, nil, nil, true)
	checkClosed(t, s, nil, []int{0}, true)
	checkClosed(t, s, []int{2}, nil, true)
	checkClosed(t, s, []int{1}, nil, false)
	checkClosed(t, s, []int{3}, nil, false)
	checkClosed(t, s, []int{1, 3}, nil, true)
	checkClosed(t, s, []int{3, 2, 1}, nil, true)
	checkClosed(t, s, []int{0, 1, 3}, nil, false)
	checkClosed(t, s, []int{0, 2, 1, 3}, nil, true)
	checkClosed(t, s, []int{4, 3, 2, 1, 0}, nil, true)
	checkClosed(t, s, []int{3, 2, 1, 4}, nil, false)
	checkClosed(t, s, []int{4}, nil, false)
	// Each leaf counts, but only those of the set; other unknowns must still have what they depend on.
	checkClosed(t, s, []int{4}, []int{4}, true)
	checkClosed(t, s, []int{1}, []int{1}, true)
	checkClosed(t, s, []int{1}, []int{3}, false)
	checkClosed(t, s, []int{0, 1, 2}, []int{1}, true)
	checkClosed(t, s, []int{0, 2}, []int{1}, false)
	checkClosed(t, s, []int{0, 4}, []int{4}, false)
	checkClosed(t, s, []int{0, 4}, []int{0}, true)
	checkClosed(t, s, []int{1, 2, 0}, []int{0, 2}, false)
	// In any order and repeated.
	checkClosed(t, s, []int{3, 1, 3, 3, 1}, []int{0, 0}, true)
	checkClosed(t, s, []int{0, 0, 0}, []int{4, 0, 4, 0}, true)
	checkClosed(t, s, []int{1, 1}, []int{0, 4, 3, 2}, false)
	loop := plain(t, 0, []int{0}, nil)
	checkClosed(t, loop, []int{0}, nil, true)
	checkClosed(t, loop, []int{1}, nil, true)
}

// checkRestrict compares a restricted system with a written-out one.
func checkRestrict(t *testing.T, s api.System, list []int, known []api.Known, want api.System) {
	t.Helper()
	if got, err := cone.Restrict(s, list, known); err != api.OK || !sameSystem(got, want) {
		t.Errorf("Restrict of %v to %v with %v is %v, %v, want %v", s, list, known, got, err, want)
	}
}

// numbered returns a system of the width 3 of these dependencies, all whose functions and boundaries differ.
func numbered(t *testing.T, deps ...[]int) api.System {
	t.Helper()
	s := plain(t, 3, deps...)
	for n := range deps {
		s.Boundary[n].Words[0] = uint64(n)
		s.Transfers[n].Kill.Words[0] = uint64(7 - n)
		s.Transfers[n].Copies = []api.Copy{{From: n % 3, To: n / 3}}
	}
	return s
}

// P14.3: restricted systems.
func TestRestrict(t *testing.T) {
	s := numbered(t, []int{0, 1, 2}, []int{3}, nil, []int{0, 1}, []int{4})
	f, b := s.Transfers, s.Boundary
	checkRestrict(t, s, []int{0, 1, 2, 3, 4}, nil, s)
	checkRestrict(t, s, []int{2}, nil, api.System{Width: 3, Deps: [][]int{nil}, Transfers: f[2:3], Boundary: b[2:3]})
	checkRestrict(t, s, []int{4}, nil, api.System{Width: 3, Deps: [][]int{{0}}, Transfers: f[4:], Boundary: b[4:]})

	// The numbers are those of the order in cone, and Deps are in the order of the new numbers.
	want := api.System{Width: 3, Deps: [][]int{{2}, nil, {0, 3}, {0, 1, 3}}, Transfers: []api.Transfer{f[1], f[2], f[3], f[0]}, Boundary: []api.Set{b[1], b[2], b[3], b[0]}}
	checkRestrict(t, s, []int{1, 2, 3, 0}, nil, want)
	want = api.System{Width: 3, Deps: [][]int{{3, 4}, {1}, nil, {2, 3, 4}, {0}}, Transfers: []api.Transfer{f[3], f[4], f[2], f[0], f[1]}, Boundary: []api.Set{b[3], b[4], b[2], b[0], b[1]}}
	checkRestrict(t, s, []int{3, 4, 2, 0, 1}, nil, want)
	// What is not in cone is left out of Deps.
	want = api.System{Width: 3, Deps: [][]int{{1}, {1}}, Transfers: []api.Transfer{f[3], f[0]}, Boundary: []api.Set{b[3], b[0]}}
	checkRestrict(t, s, []int{3, 0}, nil, want)
	want = api.System{Width: 3, Deps: [][]int{nil, {1}}, Transfers: []api.Transfer{f[1], f[4]}, Boundary: []api.Set{b[1], b[4]}}
	checkRestrict(t, s, []int{1, 4}, nil, want)
}

// P14.3: known values, in any order, more than one of an unknown, and of unknowns that are not in the cone.
func TestRestrictKnown(t *testing.T) {
	s := numbered(t, []int{0, 1, 2}, []int{3}, nil, []int{0, 1}, []int{4})
	f, b := s.Transfers, s.Boundary
	zero, one, all := setOf(t, "/3"), setOf(t, "1/3"), setOf(t, "0,1,2/3")
	// Its Value replaces the Boundary, and others still depend on it, through its function.
	want := api.System{Width: 3, Deps: [][]int{nil, {0, 1, 2}, nil}, Transfers: []api.Transfer{f[2], f[0], f[1]}, Boundary: []api.Set{b[2], b[0], one}}
	list := []int{2, 0, 1}
	checkRestrict(t, s, list, []api.Known{{Node: 1, Value: one}}, want)
	checkRestrict(t, s, list, []api.Known{{Node: 1, Value: one}, {Node: 1, Value: all}}, want)
	checkRestrict(t, s, list, []api.Known{{Node: 3, Value: all}, {Node: 1, Value: one}, {Node: 4, Value: all}, {Node: 3, Value: zero}, {Node: 1, Value: zero}}, want)
	// A Boundary that is not empty can be replaced by the empty set, also of an unknown without Deps or with one from itself.
	want.Boundary = []api.Set{zero, b[0], one}
	checkRestrict(t, s, list, []api.Known{{Node: 2, Value: zero}, {Node: 1, Value: one}}, want)
	want.Deps, want.Boundary = [][]int{nil, nil, nil}, []api.Set{zero, all, zero}
	checkRestrict(t, s, list, []api.Known{{Node: 2, Value: zero}, {Node: 1, Value: zero}, {Node: 0, Value: all}, {Node: 0, Value: zero}}, want)
	want = api.System{Width: 3, Deps: [][]int{nil}, Transfers: f[4:], Boundary: []api.Set{one}}
	checkRestrict(t, s, []int{4}, []api.Known{{Node: 4, Value: one}}, want)
	// Only unknowns that are not in the cone are known.
	want = api.System{Width: 3, Deps: [][]int{nil, nil}, Transfers: f[1:3], Boundary: b[1:3]}
	checkRestrict(t, s, []int{1, 2}, []api.Known{{Node: 3, Value: one}, {Node: 0, Value: one}}, want)
}

// checkDependents compares the dependents of an element of a cone with written-out ones.
func checkDependents(t *testing.T, s api.System, list []int, leaf []bool, i int, want ...int) {
	t.Helper()
	if got := cone.Dependents(s, list, leaf, i); !slices.Equal(got, want) {
		t.Errorf("the dependents of %d in %v, %v in %v are %v, want %v", i, list, leaf, s.Deps, got, want)
	}
}

// P14.4: dependents.
func TestDependents(t *testing.T) {
	s := plain(t, 1, []int{0, 1, 3}, []int{2}, nil, []int{0, 2}, []int{1, 2})
	list, none := []int{3, 0, 2, 1}, make([]bool, 4)
	checkDependents(t, s, list, none, 0, 1)
	checkDependents(t, s, list, none, 1, 0, 1)
	checkDependents(t, s, list, none, 2, 0, 3)
	checkDependents(t, s, list, none, 3, 1)
	// A leaf depends on nothing, but others depend on it.
	leaf := []bool{false, true, false, false}
	checkDependents(t, s, list, leaf, 0)
	checkDependents(t, s, list, leaf, 1, 0)
	checkDependents(t, s, list, leaf, 2, 0, 3)
	leaf = []bool{true, false, true, false}
	checkDependents(t, s, list, leaf, 1, 1)
	checkDependents(t, s, list, leaf, 2, 3)
	checkDependents(t, s, list, []bool{true, true, true, true}, 2)
	// What is not in cone is no dependent; nor need cone be closed.
	checkDependents(t, s, []int{2, 4}, none[:2], 0, 1)
	checkDependents(t, s, []int{2}, none[:1], 0)
	checkDependents(t, s, []int{0}, none[:1], 0, 0)
	checkDependents(t, s, []int{4, 1}, none[:2], 1, 0)
	// An unknown that is there twice counts at each index.
	checkDependents(t, s, []int{0, 1, 0, 1}, none, 1, 0, 2)
	checkDependents(t, s, []int{0, 1, 0, 1}, none, 3, 0, 2)
	checkDependents(t, s, []int{0, 0, 3, 0}, []bool{false, true, false, false}, 1, 0, 2, 3)
}

// P14.4: arguments for which there are no dependents.
func TestNoDependents(t *testing.T) {
	s := plain(t, 1, []int{0, 1}, []int{0})
	leaf := make([]bool, 3)
	checkDependents(t, s, []int{0, 1}, leaf[:2], 0, 0, 1)
	for _, i := range []int{-1, 2, 3, math.MinInt, math.MaxInt} {
		checkDependents(t, s, []int{0, 1}, leaf[:2], i)
	}
	for _, leaf := range [][]bool{nil, leaf[:1], leaf} {
		checkDependents(t, s, []int{0, 1}, leaf, 0)
	}
	for _, n := range []int{-1, 2, math.MinInt, math.MaxInt} {
		checkDependents(t, s, []int{n, 0}, leaf[:2], 0)
		checkDependents(t, s, []int{0, n}, leaf[:2], 0)
		checkDependents(t, s, []int{0, n}, []bool{false, true}, 0)
		checkDependents(t, s, []int{0, 1, n}, leaf, 1)
		checkDependents(t, s, []int{n}, leaf[:1], 0)
	}
	checkDependents(t, s, nil, nil, 0)
	checkDependents(t, s, nil, leaf[:1], 0)
	checkDependents(t, s, []int{}, []bool{}, -1)
}

// reachable returns which unknowns a root leads to, where leaves lead no further.
func reachable(deps [][]int, root int, leaves []int) []bool {
	in := make([]bool, len(deps))
	in[root] = true
	for again := true; again; {
		again = false
		for n, list := range deps {
			if !in[n] || slices.Contains(leaves, n) {
				continue
			}
			for _, m := range list {
				again = again || !in[m]
				in[m] = true
			}
		}
	}
	return in
}

// checkCone checks a cone: it has the unknowns that the root leads to, in the order of the places where each is found first,
// which are given by an unknown that is expanded and an index in its Deps.
func checkCone(t *testing.T, s api.System, root int, leaves []int) []int {
	t.Helper()
	list, cost, err := cone.Of(s, root, leaves)
	if err != api.OK || len(list) == 0 || list[0] != root {
		t.Fatalf("the cone of %d in %v with the leaves %v is %v, %v", root, s.Deps, leaves, list, err)
	}
	size, wantCost := 0, len(list)
	for n, in := range reachable(s.Deps, root, leaves) {
		if in {
			size++
		}
		if in != slices.Contains(list, n) {
			t.Fatalf("the cone of %d in %v with the leaves %v is %v, which is wrong about %d", root, s.Deps, leaves, list, n)
		}
	}
	last := [2]int{-1, -1}
	for i, n := range list {
		if !slices.Contains(leaves, n) {
			wantCost += len(s.Deps[n])
		}
		place := firstPlace(s, list, leaves, n)
		if i > 0 && slices.Compare(place[:], last[:]) <= 0 {
			t.Fatalf("the cone of %d in %v with the leaves %v is %v, where %d comes too late", root, s.Deps, leaves, list, n)
		}
		if i > 0 {
			last = place
		}
	}
	if len(list) != size || cost != wantCost {
		t.Fatalf("the cone of %d in %v with the leaves %v is %v, %d, want the cost %d", root, s.Deps, leaves, list, cost, wantCost)
	}
	return list
}

// firstPlace returns the first index in list of an unknown that is expanded and depends on n, and the index of n in its Deps.
func firstPlace(s api.System, list, leaves []int, n int) [2]int {
	for at, m := range list {
		if i := slices.Index(s.Deps[m], n); i >= 0 && !slices.Contains(leaves, m) {
			return [2]int{at, i}
		}
	}
	return [2]int{len(list), 0}
}

// isClosed reports whether a set of unknowns is closed, from the definition.
func isClosed(s api.System, set, leaves []int) bool {
	for _, n := range set {
		for _, m := range s.Deps[n] {
			if !slices.Contains(leaves, n) && !slices.Contains(set, m) {
				return false
			}
		}
	}
	return true
}

// checkAllDependents compares the dependents of all elements of a cone with those from the definition.
func checkAllDependents(t *testing.T, s api.System, list []int, leaf []bool) {
	t.Helper()
	for i := range list {
		var want []int
		for j := range list {
			if !leaf[j] && slices.Contains(s.Deps[list[j]], list[i]) {
				want = append(want, j)
			}
		}
		checkDependents(t, s, list, leaf, i, want...)
	}
}

// chosen returns the numbers whose bits a number has.
func chosen(number int) []int {
	var list []int
	for n := 0; number>>n > 0; n++ {
		if number>>n&1 == 1 {
			list = append(list, n)
		}
	}
	return list
}

// P14.1, P14.2, P14.4: all systems of up to three unknowns, with all sets and leaves; and some of four. Each closed set that
// contains the root contains its cone, which is closed.
func TestAllDependencies(t *testing.T) {
	for size := 1; size <= 4; size++ {
		all := 1 << size
		for number := range 1 << (size * size) {
			if size == 4 && number%97 != 0 {
				continue
			}
			deps := make([][]int, size)
			for _, i := range chosen(number) {
				deps[i/size] = append(deps[i/size], i%size)
			}
			s := plain(t, 0, deps...)
			for set := range all * all {
				checkSmall(t, s, chosen(set%all), chosen(set/all))
			}
		}
	}
}

// checkSmall checks everything that a small system has for a set and leaves.
func checkSmall(t *testing.T, s api.System, set, leaves []int) {
	t.Helper()
	closed := isClosed(s, set, leaves)
	checkClosed(t, s, set, leaves, closed)
	leaf := make([]bool, len(set))
	for i, n := range set {
		leaf[i] = slices.Contains(leaves, n)
		list := checkCone(t, s, n, leaves)
		checkClosed(t, s, list, leaves, true)
		for _, m := range list {
			if closed && !slices.Contains(set, m) {
				t.Errorf("the closed set %v in %v with the leaves %v does not contain the cone %v", set, s.Deps, leaves, list)
			}
		}
	}
	checkAllDependents(t, s, set, leaf)
}

// restricted returns the system that Restrict must return, from the definition.
func restricted(s api.System, list []int, known []api.Known) api.System {
	r := api.System{Width: s.Width}
	for _, n := range list {
		var deps []int
		for j, m := range list {
			if slices.Contains(s.Deps[n], m) {
				deps = append(deps, j)
			}
		}
		boundary := s.Boundary[n]
		if i := slices.IndexFunc(known, func(k api.Known) bool { return k.Node == n }); i >= 0 {
			deps, boundary = nil, known[i].Value
		}
		r.Deps, r.Boundary, r.Transfers = append(r.Deps, deps), append(r.Boundary, boundary), append(r.Transfers, s.Transfers[n])
	}
	return r
}

// leastOf returns the least solution of a system that must be valid.
func leastOf(t *testing.T, s api.System) []api.Set {
	t.Helper()
	least, _, err := fixpoint.Solve(s)
	if err != api.OK {
		t.Fatalf("the least solution of %v is %v", s, err)
	}
	return least
}

// checkLeast checks that the least solution of a system restricted to a closed list has the values of that of the system.
func checkLeast(t *testing.T, s api.System, list []int, known []api.Known, least []api.Set) {
	t.Helper()
	r, err := cone.Restrict(s, list, known)
	if err != api.OK || !equations.Valid(r) {
		t.Fatalf("Restrict of %v to %v with %v is %v, %v", s, list, known, r, err)
	}
	for i, v := range leastOf(t, r) {
		if !bitset.Equal(v, least[list[i]]) {
			t.Errorf("Restrict of %v to %v with %v has %q for %d, want %q", s, list, known, bitset.Text(v), list[i], bitset.Text(least[list[i]]))
		}
	}
}

// someSet returns a set of random members, each with a probability of one in rare.
func someSet(r *rand.Rand, width, rare int) api.Set {
	var members []int
	for b := range width {
		if r.IntN(rare) == 0 {
			members = append(members, b)
		}
	}
	s, _ := bitset.Of(width, members)
	return s
}

// someFunction returns a random function, which is mostly not canonical.
func someFunction(r *rand.Rand, width int) api.Transfer {
	f := api.Transfer{Gen: someSet(r, width, 12), Kill: someSet(r, width, 2)}
	for from := range width {
		for to := range width {
			if r.IntN(width) == 0 && len(f.Copies) < api.MaxCopies {
				f.Copies = append(f.Copies, api.Copy{From: from, To: to})
			}
		}
	}
	return f
}

// someDeps returns random dependencies, of which each unknown has about as many as given.
func someDeps(r *rand.Rand, size, each int) [][]int {
	deps := make([][]int, size)
	for n := range deps {
		for m := range size {
			if r.IntN(size) < each {
				deps[n] = append(deps[n], m)
			}
		}
	}
	return deps
}

// someSystem returns a valid system with random parts.
func someSystem(r *rand.Rand, width, size int) api.System {
	s := api.System{Width: width, Deps: someDeps(r, size, 1+r.IntN(2))}
	for range size {
		s.Transfers = append(s.Transfers, someFunction(r, width))
		s.Boundary = append(s.Boundary, someSet(r, width, 8))
	}
	return s
}

// someUnknowns returns random unknowns in any order, with repetitions.
func someUnknowns(r *rand.Rand, size, most int) []int {
	var list []int
	for range r.IntN(most + 1) {
		list = append(list, r.IntN(size))
	}
	return list
}

// someKnown returns random values of random unknowns, some of which are there more than once.
func someKnown(r *rand.Rand, s api.System) []api.Known {
	var known []api.Known
	for _, n := range someUnknowns(r, len(s.Deps), 4) {
		known = append(known, api.Known{Node: n, Value: someSet(r, s.Width, 2)})
	}
	return known
}

// leastKnown returns the values of the least solution for unknowns.
func leastKnown(least []api.Set, leaves []int) []api.Known {
	var known []api.Known
	for _, n := range leaves {
		known = append(known, api.Known{Node: n, Value: least[n]})
	}
	return known
}

// checkGenerated checks everything that a system has for a root and leaves, also for random sets, cones and known values.
func checkGenerated(t *testing.T, r *rand.Rand, s api.System, least []api.Set, root int, leaves []int) {
	t.Helper()
	size := len(s.Deps)
	list := checkCone(t, s, root, leaves)
	checkClosed(t, s, list, leaves, true)
	checkLeast(t, s, list, leastKnown(least, leaves), least)
	mixed := slices.Clone(list)
	r.Shuffle(len(mixed), func(i, j int) { mixed[i], mixed[j] = mixed[j], mixed[i] })
	checkLeast(t, s, mixed, leastKnown(least, leaves), least)

	set := someUnknowns(r, size, size)
	checkClosed(t, s, set, leaves, isClosed(s, set, leaves))
	checkClosed(t, s, list[1:], leaves, isClosed(s, list[1:], leaves))
	leaf := make([]bool, len(set))
	for i := range leaf {
		leaf[i] = r.IntN(4) == 0
	}
	checkAllDependents(t, s, set, leaf)
	part := r.Perm(size)[:1+r.IntN(size)]
	for _, some := range [][]int{part, list, mixed} {
		known := someKnown(r, s)
		checkRestrict(t, s, some, known, restricted(s, some, known))
	}
}

// P14.1 to P14.4: generated systems.
func TestGeneratedSystems(t *testing.T) {
	r := rand.New(rand.NewPCG(14, 1))
	for i := range 1500 {
		width, size := r.IntN(9), 1+r.IntN(16)
		if i%4 == 0 {
			width, size = 60+r.IntN(10), 1+r.IntN(6)
		}
		s := someSystem(r, width, size)
		least := leastOf(t, s)
		for range 3 {
			checkGenerated(t, r, s, least, r.IntN(size), someUnknowns(r, size, 5))
		}
	}
}

// generate returns the text of a program that is valid unless it has too many nodes.
func generate(r *rand.Rand) string {
	pick := func(list ...string) string { return list[r.IntN(len(list))] }
	variable := func() string { return pick("x", "y", "z", "m", "v"+strconv.Itoa(r.IntN(9))) }
	funcs := []string{"m", "f", "g"}[:1+r.IntN(3)]
	text := ""
	for _, f := range funcs {
		text += "func " + f + "\n"
		blocks := []string{"b0", "b1", "x", "exit", "m"}[:1+r.IntN(5)]
		for _, b := range blocks {
			text += "block " + b + "\n"
			for range r.IntN(1 + r.IntN(20)) {
				text += pick(variable()+" =", variable()+" = "+variable(), variable()+" = "+variable()+" "+variable(), "use "+variable(), "call "+pick(funcs...),
					"source "+variable(), "sink "+variable(), "sanitize "+variable()) + "\n"
			}
			text += pick("return", "goto "+pick(blocks...), "branch "+variable()+" "+pick(blocks...)+" "+pick(blocks...)) + "\n"
		}
		text += "end\n"
	}
	return text
}

// systemsOf returns the systems of all analyses of the program of a text, or none if it has none.
func systemsOf(t *testing.T, text string) []api.System {
	t.Helper()
	p, _, _, err := syntax.Parse(text)
	if err != api.OK {
		t.Fatalf("Parse(%q) is %v", text, err)
	}
	if _, err := validate.Check(p); err != api.OK {
		return nil
	}
	var systems []api.System
	for _, kind := range []int{api.KindReach, api.KindLive, api.KindTaint, api.KindUninit} {
		s, err := equations.Of(p, kind)
		if err != api.OK {
			t.Fatalf("the system of the kind %d of %q is %v", kind, text, err)
		}
		systems = append(systems, s)
	}
	return systems
}

// P14.1 to P14.4: all analyses of generated programs.
func TestGeneratedPrograms(t *testing.T) {
	r := rand.New(rand.NewPCG(14, 2))
	count := 0
	for range 40 {
		for _, s := range systemsOf(t, generate(r)) {
			count++
			least, size := leastOf(t, s), len(s.Deps)
			checkGenerated(t, r, s, least, r.IntN(size), nil)
			checkGenerated(t, r, s, least, r.IntN(size), someUnknowns(r, size, 5))
		}
	}
	if count < 100 {
		t.Errorf("only %d systems are checked", count)
	}
}

// P14.1 to P14.4: the cone of a node of a program, forward and backward: the loop of b, and what leads to it or follows it.
func TestProgram(t *testing.T) {
	systems := systemsOf(t, "func m; block b; x = y; branch x b c; block c; use y; return; end")
	for i, s := range systems {
		if i == 1 {
			checkOf(t, s, 2, nil, 10, 2, 1, 3, 4, 5)
			checkOf(t, s, 1, []int{3}, 6, 1, 2, 3)
			checkOf(t, s, 5, nil, 1, 5)
			continue
		}
		checkOf(t, s, 3, nil, 8, 3, 2, 1, 0)
		checkOf(t, s, 3, []int{1}, 5, 3, 2, 1)
		checkOf(t, s, 0, nil, 1, 0)
		checkDependents(t, s, []int{3, 2, 1, 0}, make([]bool, 4), 1, 0, 2)
	}
}

// P14.1 to P14.4: the limits of unknowns, dependencies and width, and one more.
func TestLimits(t *testing.T) {
	all := make([]int, api.MaxNodes)
	line := make([][]int, api.MaxNodes)
	for n := range all {
		all[n] = n
		if n > 0 {
			line[n] = []int{n - 1}
		}
	}
	down := slices.Clone(all)
	slices.Reverse(down)
	checkOf(t, plain(t, api.MaxWidth, line...), api.MaxNodes-1, nil, 2*api.MaxNodes-1, down...)
	dense := slices.Repeat([][]int{all[:32]}, 32)
	checkOf(t, plain(t, 1, dense...), 31, nil, 32+api.MaxEdges, append([]int{31}, all[:31]...)...)
	wide := append(slices.Repeat([][]int{all}, 4), make([][]int, api.MaxNodes-4)...)
	checkOf(t, plain(t, 1, wide...), 0, nil, api.MaxNodes+api.MaxEdges, all...)

	r := rand.New(rand.NewPCG(14, 3))
	for _, deps := range [][][]int{dense, wide, line, someDeps(r, api.MaxNodes, 1), someDeps(r, api.MaxNodes, 2)} {
		s := plain(t, api.MaxWidth, deps...)
		for n := range deps {
			s.Boundary[n], s.Transfers[n] = someSet(r, api.MaxWidth, 100), someFunction(r, api.MaxWidth)
		}
		least := leastOf(t, s)
		checkGenerated(t, r, s, least, len(deps)-1, nil)
		checkGenerated(t, r, s, least, r.IntN(len(deps)), someUnknowns(r, len(deps), 30))
		checkRestrict(t, s, down[api.MaxNodes-len(deps):], nil, restricted(s, down[api.MaxNodes-len(deps):], nil))
	}
	for width := range api.MaxWidth + 1 {
		s := plain(t, width, nil, []int{0, 1})
		s.Boundary[0], _ = bitset.Full(width)
		checkGenerated(t, r, s, leastOf(t, s), 1, []int{width % 2})
	}
	none(t, plain(t, 1, append(slices.Clone(dense), []int{0})...))
	none(t, plain(t, 1, make([][]int, api.MaxNodes+1)...))
}

// R1: lists that are much longer than there are unknowns.
func TestLongLists(t *testing.T) {
	s := plain(t, 1, []int{1}, []int{0, 1, 2}, nil)
	long := slices.Repeat([]int{1, 2}, 1<<18)
	checkOf(t, s, 0, long, 3, 0, 1)
	checkClosed(t, s, long, nil, false)
	checkClosed(t, s, append(long, 0), long, true)
	var want []int
	for i := range 1 << 18 {
		want = append(want, 2*i)
	}
	checkDependents(t, s, long, make([]bool, len(long)), 1, want...)
	checkRestrictError(t, s, long, nil, api.ErrDuplicate)
	known := slices.Repeat([]api.Known{{Node: 0, Value: setOf(t, "0/1")}}, 1<<18)
	checkRestrict(t, s, []int{2, 0}, known, restricted(s, []int{2, 0}, known[:1]))
}

// checkOfError checks that a cone is an error.
func checkOfError(t *testing.T, s api.System, root int, leaves []int, want api.Errno) {
	t.Helper()
	if list, cost, err := cone.Of(s, root, leaves); list != nil || cost != 0 || err != want {
		t.Errorf("the cone of %d in %v with the leaves %v is %v, %d, %v, want %v", root, s, leaves, list, cost, err, want)
	}
}

// checkRestrictError checks that a restricted system is an error.
func checkRestrictError(t *testing.T, s api.System, list []int, known []api.Known, want api.Errno) {
	t.Helper()
	if got, err := cone.Restrict(s, list, known); !reflect.DeepEqual(got, api.System{}) || err != want {
		t.Errorf("Restrict of %v to %v with %v is %v, %v, want %v", s, list, known, got, err, want)
	}
}

// P14.1 to P14.3, R1, R4, R5: numbers that are no unknowns, at each place of a list.
func TestNoUnknown(t *testing.T) {
	s := plain(t, 1, []int{1}, nil, []int{0, 1})
	fine := setOf(t, "0/1")
	for _, n := range []int{-1, 3, 4, api.MaxNodes, math.MinInt, math.MaxInt} {
		checkOfError(t, s, n, nil, api.ErrNode)
		checkOfError(t, s, n, []int{0}, api.ErrNode)
		// 1 depends on nothing and is not expanded: the leaves are checked even so.
		for _, list := range [][]int{{n}, {0, n}, {1, n, 1}, {n, 1, 1}} {
			checkOfError(t, s, 1, list, api.ErrNode)
			checkClosed(t, s, list, []int{0, 1, 2}, false)
			checkClosed(t, s, []int{0, 1}, list, false)
			checkClosed(t, s, nil, list, false)
			checkRestrictError(t, s, list, nil, api.ErrNode)
			var known []api.Known
			for _, m := range list {
				known = append(known, api.Known{Node: m, Value: fine})
			}
			checkRestrictError(t, s, []int{1}, known, api.ErrNode)
		}
	}
}

// P14.3, R4, R5: the errors of Restrict and their order.
func TestRestrictErrors(t *testing.T) {
	s := plain(t, 2, []int{1}, nil, []int{0, 1})
	fine, bad, wide := setOf(t, "1/2"), api.Set{Width: 2, Words: []uint64{4}}, setOf(t, "/3")
	known := func(n int, v api.Set) api.Known { return api.Known{Node: n, Value: v} }
	for _, c := range []struct {
		cone  []int
		known []api.Known
		want  api.Errno
	}{
		{nil, nil, api.ErrDuplicate}, {[]int{}, []api.Known{known(0, fine)}, api.ErrDuplicate},
		{[]int{0, 0}, nil, api.ErrDuplicate}, {[]int{2, 1, 2}, nil, api.ErrDuplicate}, {[]int{0, 1, 2, 1}, []api.Known{known(1, fine)}, api.ErrDuplicate},
		{[]int{0}, []api.Known{known(0, bad)}, api.ErrInvalid}, {[]int{0}, []api.Known{known(0, api.Set{Width: -1})}, api.ErrInvalid}, {[]int{0}, []api.Known{known(0, api.Set{Width: 2})}, api.ErrInvalid},
		{[]int{0}, []api.Known{known(0, api.Set{Width: 257, Words: make([]uint64, 5)})}, api.ErrInvalid},
		{[]int{0}, []api.Known{known(0, wide)}, api.ErrWidth}, {[]int{0}, []api.Known{known(0, setOf(t, "0/1"))}, api.ErrWidth}, {[]int{0}, []api.Known{known(0, api.Set{})}, api.ErrWidth},
		// All elements of known are checked, also those that are not in the cone, and those that are not the first.
		{[]int{0, 1}, []api.Known{known(2, bad)}, api.ErrInvalid}, {[]int{0, 1}, []api.Known{known(2, wide)}, api.ErrWidth},
		{[]int{0, 1}, []api.Known{known(1, fine), known(1, bad)}, api.ErrInvalid}, {[]int{0, 1}, []api.Known{known(1, fine), known(1, wide), known(0, fine)}, api.ErrWidth},
		// The first error that is named, wherever it is.
		{nil, []api.Known{known(3, bad)}, api.ErrNode}, {[]int{0, 0}, []api.Known{known(0, wide), known(-1, fine)}, api.ErrNode}, {[]int{0, 0, 3}, []api.Known{known(0, bad)}, api.ErrNode},
		{[]int{1}, []api.Known{known(0, bad), known(1, wide), known(3, fine)}, api.ErrNode},
		{nil, []api.Known{known(0, bad)}, api.ErrDuplicate}, {[]int{1, 1}, []api.Known{known(0, bad)}, api.ErrDuplicate}, {[]int{1, 1}, []api.Known{known(0, wide)}, api.ErrDuplicate},
		{[]int{1}, []api.Known{known(0, wide), known(1, bad)}, api.ErrInvalid}, {[]int{1}, []api.Known{known(1, bad), known(1, wide)}, api.ErrInvalid},
	} {
		checkRestrictError(t, s, c.cone, c.known, c.want)
	}
	checkRestrict(t, s, []int{0}, []api.Known{known(0, fine)}, restricted(s, []int{0}, []api.Known{known(0, fine)}))
}

// none checks that all functions say that a system is not valid, also where something else is wrong.
func none(t *testing.T, s api.System) {
	t.Helper()
	bad := []api.Known{{Node: -1, Value: api.Set{Width: -1}}}
	for _, list := range [][]int{nil, {0}, {-1}, {math.MaxInt, 0}} {
		for _, n := range []int{0, -1, math.MaxInt} {
			checkOfError(t, s, n, list, api.ErrInvalid)
			checkDependents(t, s, list, make([]bool, len(list)), n)
		}
		checkRestrictError(t, s, list, nil, api.ErrInvalid)
		checkRestrictError(t, s, list, bad, api.ErrInvalid)
		checkClosed(t, s, list, nil, false)
		checkClosed(t, s, nil, list, false)
		checkClosed(t, s, list, list, false)
	}
}

// P14.1 to P14.4, R1, R4, R5: systems that are not valid.
func TestInvalid(t *testing.T) {
	bad := api.Set{Width: 2, Words: []uint64{4}}
	for _, change := range []func(s *api.System){
		func(s *api.System) { *s = api.System{} }, func(s *api.System) { *s = api.System{Width: 2} }, func(s *api.System) { s.Width = 3 }, func(s *api.System) { s.Width = -1 }, func(s *api.System) { s.Width = 257 },
		func(s *api.System) { s.Deps = s.Deps[:1] }, func(s *api.System) { s.Deps = append(s.Deps, nil) }, func(s *api.System) { s.Transfers = s.Transfers[:1] }, func(s *api.System) { s.Boundary = nil },
		func(s *api.System) { s.Deps[0] = []int{1, 0} }, func(s *api.System) { s.Deps[0] = []int{1, 1} }, func(s *api.System) { s.Deps[1] = []int{2} }, func(s *api.System) { s.Deps[1] = []int{-1} },
		func(s *api.System) { s.Deps[1] = []int{math.MaxInt} }, func(s *api.System) { s.Deps[1] = []int{math.MinInt} }, func(s *api.System) { s.Boundary[1] = bad }, func(s *api.System) { s.Boundary[0] = api.Set{} },
		func(s *api.System) { s.Boundary[0] = setOf(t, "/3") }, func(s *api.System) { s.Transfers[1] = api.Transfer{} }, func(s *api.System) { s.Transfers[0].Gen = bad }, func(s *api.System) { s.Transfers[1].Kill = bad },
		func(s *api.System) { s.Transfers[0].Copies = []api.Copy{{To: 2}} }, func(s *api.System) { s.Transfers[0].Copies = []api.Copy{{From: 1}, {From: 0}} },
	} {
		s := plain(t, 2, []int{0, 1}, []int{0})
		change(&s)
		none(t, s)
	}
}

// R3: a nil list and an empty one are equal.
func TestEmptyLists(t *testing.T) {
	for _, words := range [][]uint64{nil, {}} {
		set := api.Set{Words: words}
		for _, list := range [][]int{nil, {}} {
			s := api.System{Deps: [][]int{list}, Boundary: []api.Set{set}, Transfers: []api.Transfer{{Gen: set, Kill: set}}}
			checkOf(t, s, 0, list, 1, 0)
			checkClosed(t, s, list, list, true)
			checkClosed(t, s, []int{0}, list, true)
			checkRestrictError(t, s, list, nil, api.ErrDuplicate)
			checkDependents(t, s, []int{0}, []bool{false}, 0)
			for _, known := range [][]api.Known{nil, {}, {{Value: set}}} {
				checkRestrict(t, s, []int{0}, known, s)
			}
		}
	}
}

func copiedSet(s api.Set) api.Set { return api.Set{Width: s.Width, Words: slices.Clone(s.Words)} }

// copied returns a system that is equal and shares no memory.
func copied(s api.System) api.System {
	c := api.System{Width: s.Width}
	for n, f := range s.Transfers {
		c.Deps = append(c.Deps, slices.Clone(s.Deps[n]))
		c.Boundary = append(c.Boundary, copiedSet(s.Boundary[n]))
		c.Transfers = append(c.Transfers, api.Transfer{Gen: copiedSet(f.Gen), Kill: copiedSet(f.Kill), Copies: slices.Clone(f.Copies)})
	}
	return c
}

// places collects the places of elements of slices, and those that are there more than once.
type places struct {
	seen   map[any]bool
	shared int
}

func addAll[T any](p *places, list []T) {
	list = list[:cap(list)]
	for i := range list {
		if p.seen[&list[i]] {
			p.shared++
		}
		p.seen[&list[i]] = true
	}
}

func (p *places) addSystem(s api.System) {
	addAll(p, s.Deps)
	for _, list := range s.Deps {
		addAll(p, list)
	}
	addAll(p, s.Transfers)
	for _, f := range s.Transfers {
		addAll(p, f.Gen.Words)
		addAll(p, f.Kill.Words)
		addAll(p, f.Copies)
	}
	addAll(p, s.Boundary)
	for _, b := range s.Boundary {
		addAll(p, b.Words)
	}
}

// arguments are what the functions are given besides a system.
type arguments struct {
	List, Leaves []int
	Known        []api.Known
	Leaf         []bool
}

func (a arguments) copied() arguments {
	c := arguments{List: slices.Clone(a.List), Leaves: slices.Clone(a.Leaves), Leaf: slices.Clone(a.Leaf), Known: slices.Clone(a.Known)}
	for i, k := range a.Known {
		c.Known[i].Value = copiedSet(k.Value)
	}
	return c
}

// someArguments returns random arguments, with a list that is not empty.
func someArguments(r *rand.Rand, s api.System) arguments {
	size := len(s.Deps)
	list := r.Perm(size)[:1+r.IntN(size)]
	return arguments{List: list, Leaves: someUnknowns(r, size, 5), Known: someKnown(r, s), Leaf: make([]bool, len(list))}
}

// R2: no function modifies its arguments, and no results share memory with each other, with an argument or within themselves.
func TestMemory(t *testing.T) {
	r := rand.New(rand.NewPCG(14, 4))
	found := places{seen: map[any]bool{}}
	for range 200 {
		s := someSystem(r, 1+r.IntN(70), 1+r.IntN(8))
		a := someArguments(r, s)
		found.addSystem(s)
		addAll(&found, a.List)
		addAll(&found, a.Leaves)
		for _, k := range a.Known {
			addAll(&found, k.Value.Words)
		}
		before, argumentsBefore := copied(s), a.copied()
		for range 2 {
			list, _, err := cone.Of(s, a.List[0], a.Leaves)
			restricted, errRestrict := cone.Restrict(s, a.List, a.Known)
			if err != api.OK || errRestrict != api.OK {
				t.Errorf("the cone of %v is %v, %v, and Restrict with %v is %v, %v", s, list, err, a, restricted, errRestrict)
			}
			cone.Closed(s, a.List, a.Leaves)
			addAll(&found, list)
			found.addSystem(restricted)
			for i := range a.List {
				addAll(&found, cone.Dependents(s, a.List, a.Leaf, i))
			}
		}
		if !reflect.DeepEqual(copied(s), before) || !reflect.DeepEqual(a.copied(), argumentsBefore) {
			t.Errorf("the system %v or the arguments %v were modified", before, argumentsBefore)
		}
	}
	if found.shared > 0 || len(found.seen) == 0 {
		t.Errorf("%d elements of slices are shared", found.shared)
	}
}

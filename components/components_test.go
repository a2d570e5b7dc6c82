package components_test

import (
	"math"
	"math/rand/v2"
	"reflect"
	"slices"
	"strconv"
	"testing"

	"flowquery/api"
	"flowquery/bitset"
	"flowquery/components"
	"flowquery/equations"
	"flowquery/fixpoint"
	"flowquery/syntax"
	"flowquery/transfer"
	"flowquery/validate"
)

// kinds are all kinds of analyses.
var kinds = []int{api.KindReach, api.KindLive, api.KindTaint, api.KindUninit}

// parse returns the program of a text that must be well formed.
func parse(t *testing.T, text string) api.Program {
	t.Helper()
	p, line, col, err := syntax.Parse(text)
	if err != api.OK {
		t.Fatalf("Parse(%q) is %v at %d, %d", text, err, line, col)
	}
	return p
}

// setOf returns a set with a width and members that must be permitted.
func setOf(t *testing.T, width int, members ...int) api.Set {
	t.Helper()
	s, err := bitset.Of(width, members)
	if err != api.OK {
		t.Fatalf("Of(%d, %v) is %v", width, members, err)
	}
	return s
}

// setsOf returns the sets of these texts.
func setsOf(t *testing.T, texts ...string) []api.Set {
	t.Helper()
	var sets []api.Set
	for _, text := range texts {
		s, err := bitset.Parse(text)
		if err != api.OK {
			t.Fatalf("Parse(%q) is %v", text, err)
		}
		sets = append(sets, s)
	}
	return sets
}

// textsOf returns the texts of sets.
func textsOf(sets []api.Set) []string {
	var texts []string
	for _, s := range sets {
		texts = append(texts, bitset.Text(s))
	}
	return texts
}

// function returns the function that generates gen, kills kill and makes the copies from, to, from, to and so on.
func function(t *testing.T, gen, kill string, copies ...int) api.Transfer {
	t.Helper()
	sets := setsOf(t, gen, kill)
	f := api.Transfer{Gen: sets[0], Kill: sets[1]}
	for pair := range slices.Chunk(copies, 2) {
		f.Copies = append(f.Copies, api.Copy{From: pair[0], To: pair[1]})
	}
	return f
}

// plain returns a system of these dependencies whose functions are identities and whose boundaries are empty.
func plain(t *testing.T, width int, deps ...[]int) api.System {
	t.Helper()
	s := api.System{Width: width, Deps: deps}
	for range deps {
		same, err := transfer.Identity(width)
		if err != api.OK {
			t.Fatalf("Identity(%d) is %v", width, err)
		}
		s.Transfers = append(s.Transfers, same)
		s.Boundary = append(s.Boundary, setOf(t, width))
	}
	return s
}

// systemOf returns the system of an analysis of a program that must have one.
func systemOf(t *testing.T, p api.Program, kind int) api.System {
	t.Helper()
	s, err := equations.Of(p, kind)
	if err != api.OK {
		t.Fatalf("the system of the kind %d of %q is %v", kind, syntax.Inline(p), err)
	}
	return s
}

// divide returns the least unknowns and the order of the components of a system that must be valid.
func divide(t *testing.T, s api.System) ([]int, [][]int) {
	t.Helper()
	least, err := components.Of(s)
	order, errOrder := components.Order(s)
	if err != api.OK || errOrder != api.OK {
		t.Fatalf("Of and Order of %v are %v, %v, %v, %v", s, least, err, order, errOrder)
	}
	return least, order
}

// solve returns the least solution of a system that must be valid, and the number of evaluations.
func solve(t *testing.T, s api.System) ([]api.Set, int) {
	t.Helper()
	values, count, err := components.Solve(s)
	if err != api.OK || len(values) != len(s.Deps) {
		t.Fatalf("Solve of %v is %v, %d, %v", s, values, count, err)
	}
	return values, count
}

// same reports whether lists of sets are equal.
func same(a, b []api.Set) bool { return slices.EqualFunc(a, b, bitset.Equal) }

// sameLists reports whether lists of numbers are equal.
func sameLists(a, b [][]int) bool { return slices.EqualFunc(a, b, slices.Equal[[]int]) }

// checkOrder compares the components of dependencies with written-out ones.
func checkOrder(t *testing.T, deps [][]int, wantLeast []int, want ...[]int) {
	t.Helper()
	least, order := divide(t, plain(t, 1, deps...))
	if !slices.Equal(least, wantLeast) || !sameLists(order, want) {
		t.Errorf("the components of %v are %v and %v, want %v and %v", deps, least, order, wantLeast, want)
	}
}

// P12.1: components and their order.
func TestOrder(t *testing.T) {
	checkOrder(t, [][]int{nil}, []int{0}, []int{0})
	checkOrder(t, [][]int{{0}}, []int{0}, []int{0})
	checkOrder(t, [][]int{nil, nil, nil}, []int{0, 1, 2}, []int{0}, []int{1}, []int{2})
	checkOrder(t, [][]int{{1}, {2}, nil}, []int{0, 1, 2}, []int{2}, []int{1}, []int{0})
	checkOrder(t, [][]int{{1}, {0}}, []int{0, 0}, []int{0, 1})
	checkOrder(t, [][]int{{0, 1}, {1}}, []int{0, 1}, []int{1}, []int{0})

	// After 1, both 2 and 0 could come next; 3 must wait for 2 and comes before 4.
	checkOrder(t, [][]int{{1}, nil, {1}, {2}, nil}, []int{0, 1, 2, 3, 4}, []int{1}, []int{0}, []int{2}, []int{3}, []int{4})
	// 2 makes place for 0, which comes before 1 again although 1 could have come first.
	checkOrder(t, [][]int{{2}, {3}, nil, nil}, []int{0, 1, 2, 3}, []int{2}, []int{0}, []int{3}, []int{1})
	checkOrder(t, [][]int{{3}, nil, nil, {2}}, []int{0, 1, 2, 3}, []int{1}, []int{2}, []int{3}, []int{0})

	// The least unknown of a component decides, not the one that others use or the first that is found.
	checkOrder(t, [][]int{{4}, {3}, nil, {1}, {2}}, []int{0, 1, 2, 1, 4}, []int{1, 3}, []int{2}, []int{4}, []int{0})
	checkOrder(t, [][]int{{5}, {2}, {4}, {3}, {1, 3}, {0, 2}}, []int{0, 1, 1, 3, 1, 0}, []int{3}, []int{1, 2, 4}, []int{0, 5})
	checkOrder(t, [][]int{{3}, {2}, {1}, {1}}, []int{0, 1, 1, 3}, []int{1, 2}, []int{3}, []int{0})
	// Two loops that share an unknown, and two that are only joined in one direction.
	checkOrder(t, [][]int{{1}, {0, 2}, {1}}, []int{0, 0, 0}, []int{0, 1, 2})
	checkOrder(t, [][]int{{1}, {0, 2}, {3}, {2}}, []int{0, 0, 2, 2}, []int{2, 3}, []int{0, 1})
	// A dependency that was found before, in a component that is complete.
	checkOrder(t, [][]int{{1, 2}, nil, {1}}, []int{0, 1, 2}, []int{1}, []int{2}, []int{0})
	checkOrder(t, [][]int{{1, 3}, {2}, {1}, {0, 2}}, []int{0, 1, 1, 0}, []int{1, 2}, []int{0, 3})
}

// checkSolve compares the least solution and the number of evaluations of a system with written-out ones.
func checkSolve(t *testing.T, s api.System, wantCount int, want ...string) {
	t.Helper()
	if values, count := solve(t, s); count != wantCount || !slices.Equal(textsOf(values), want) {
		t.Errorf("Solve of %v is %q, %d, want %q, %d", s, textsOf(values), count, want, wantCount)
	}
}

// P12.2: least solutions and numbers of evaluations of small systems.
func TestSolve(t *testing.T) {
	one := plain(t, 2, nil)
	checkSolve(t, one, 1, "/2")
	one.Boundary[0] = setOf(t, 2, 1)
	checkSolve(t, one, 1, "1/2")
	one.Deps[0] = []int{0}
	checkSolve(t, one, 2, "1/2")
	one.Transfers[0] = function(t, "0/2", "1/2")
	checkSolve(t, one, 2, "0,1/2")
	one.Transfers[0] = function(t, "/2", "0,1/2", 1, 0)
	checkSolve(t, one, 3, "0,1/2")
	one.Transfers[0] = function(t, "/2", "0,1/2", 0, 1)
	checkSolve(t, one, 2, "1/2")

	// Without cycles, each unknown is evaluated once, whatever its number is.
	chain := plain(t, 3, []int{1}, []int{2}, nil, []int{0})
	chain.Boundary[2] = setOf(t, 3, 0, 2)
	chain.Transfers[1] = function(t, "/3", "0/3", 0, 1)
	checkSolve(t, chain, 4, "1,2/3", "0,2/3", "0,2/3", "1,2/3")

	// In ascending order, a bit passes a loop in one round, or in two if it begins in between; in descending order, in as many as
	// the loop is long, or one less if it begins at 0, which the last unknown reads in the same round. One more changes nothing.
	up := plain(t, 1, []int{3}, []int{0}, []int{1}, []int{2})
	checkSolve(t, up, 4, "/1", "/1", "/1", "/1")
	up.Boundary[0] = setOf(t, 1, 0)
	checkSolve(t, up, 8, "0/1", "0/1", "0/1", "0/1")
	up.Boundary[0], up.Boundary[2] = setOf(t, 1), setOf(t, 1, 0)
	checkSolve(t, up, 12, "0/1", "0/1", "0/1", "0/1")
	down := plain(t, 1, []int{1}, []int{2}, []int{3}, []int{0})
	down.Boundary[0] = setOf(t, 1, 0)
	checkSolve(t, down, 16, "0/1", "0/1", "0/1", "0/1")
	down.Boundary[0], down.Boundary[3] = setOf(t, 1), setOf(t, 1, 0)
	checkSolve(t, down, 20, "0/1", "0/1", "0/1", "0/1")

	// Each component has its own rounds: 2 and 3 have three, 0 and 1 three, 4 and 5 one, and 6 is no cycle.
	parts := plain(t, 2, []int{1}, []int{0, 3}, []int{3}, []int{2}, []int{5}, []int{4}, []int{0})
	parts.Boundary[3] = setOf(t, 2, 1)
	parts.Boundary[0] = setOf(t, 2, 0)
	checkSolve(t, parts, 3*2+3*2+2+1, "0,1/2", "0,1/2", "1/2", "1/2", "/2", "/2", "0,1/2")

	// An unknown that depends on itself and on another; each reads what is new in the same round.
	loop := plain(t, 4, []int{2}, []int{0}, []int{1, 2})
	loop.Boundary[0] = setOf(t, 4, 0)
	loop.Transfers[1] = function(t, "/4", "/4", 0, 1, 1, 2)
	checkSolve(t, loop, 12, "0,1,2/4", "0,1,2/4", "0,1,2/4")
	loop.Transfers[0] = function(t, "/4", "0/4", 1, 3)
	loop.Boundary[1] = setOf(t, 4, 1)
	checkSolve(t, loop, 12, "0,1,2,3/4", "1,2,3/4", "1,2,3/4")
}

// P12.1, P12.2: the examples of the chapter.
func TestExamples(t *testing.T) {
	line := parse(t, "func m; block b; source x; y = x; use y; return; end")
	for _, kind := range kinds {
		order := [][]int{{0}, {1}, {2}, {3}, {4}, {5}}
		if kind == api.KindLive {
			slices.Reverse(order)
		}
		s := systemOf(t, line, kind)
		least, got := divide(t, s)
		if _, count := solve(t, s); !slices.Equal(least, []int{0, 1, 2, 3, 4, 5}) || !sameLists(got, order) || count != 6 {
			t.Errorf("the components of the kind %d of a straight line are %v and %v, with %d evaluations", kind, least, got, count)
		}
	}

	loop := parse(t, "func m; block b; source x; goto c; block c; y = x; branch y c d; block d; return; end")
	forward, backward := [][]int{{0}, {1}, {2}, {3, 4}, {5}, {6}}, [][]int{{6}, {5}, {3, 4}, {2}, {1}, {0}}
	for _, kind := range kinds {
		want := forward
		if kind == api.KindLive {
			want = backward
		}
		least, got := divide(t, systemOf(t, loop, kind))
		if !slices.Equal(least, []int{0, 1, 2, 3, 3, 5, 6}) || !sameLists(got, want) {
			t.Errorf("the components of the kind %d of a loop are %v and %v", kind, least, got)
		}
	}
	checkSolve(t, systemOf(t, loop, api.KindTaint), 1+1+1+3*2+1+1, "/2", "/2", "0/2", "0,1/2", "0,1/2", "0,1/2", "0,1/2")

	checkSolve(t, plain(t, 3, []int{0}), 1, "/3")
}

// leads returns, for each unknown, which unknowns it depends on, directly, through others or as it is the same.
func leads(deps [][]int) [][]bool {
	reach := make([][]bool, len(deps))
	for n := range reach {
		reach[n] = make([]bool, len(deps))
		reach[n][n] = true
		for _, m := range deps[n] {
			reach[n][m] = true
		}
	}
	for through := range deps {
		for n := range deps {
			for m := range deps {
				reach[n][m] = reach[n][m] || reach[n][through] && reach[through][m]
			}
		}
	}
	return reach
}

// wantOrder returns the components of dependencies and their order, from the definitions.
func wantOrder(deps [][]int) ([]int, [][]int) {
	reach := leads(deps)
	least := make([]int, len(deps))
	for n := range least {
		for !reach[n][least[n]] || !reach[least[n]][n] {
			least[n]++
		}
	}
	var order [][]int
	var before []int // the least unknowns of the components in order
	for len(before) < len(deps) {
		next := -1
		for n := len(deps) - 1; n >= 0; n-- {
			free := least[n] == n && !slices.Contains(before, n)
			for m := range deps {
				free = free && (!reach[n][m] || least[m] == n || slices.Contains(before, least[m]))
			}
			if free {
				next = n
			}
		}
		if next < 0 {
			break
		}
		var component []int
		for n := range deps {
			if least[n] == next {
				component = append(component, n)
			}
		}
		before, order = append(before, next), append(order, component)
	}
	return least, order
}

// checkComponents compares the components of a system with those from the definitions.
func checkComponents(t *testing.T, s api.System) {
	t.Helper()
	wantLeast, want := wantOrder(s.Deps)
	if least, order := divide(t, s); !slices.Equal(least, wantLeast) || !sameLists(order, want) {
		t.Errorf("the components of %v are %v and %v, want %v and %v", s.Deps, least, order, wantLeast, want)
	}
}

// holds reports whether a valid set has a bit, from its words.
func holds(s api.Set, b int) bool { return s.Words[b/64]>>(b%64)&1 == 1 }

// evaluateBits puts the right side of an unknown into its place in values, bit by bit from the definitions, and reports whether
// that is new.
func evaluateBits(s api.System, values [][]bool, n int) bool {
	side := make([]bool, s.Width)
	for b := range side {
		side[b] = holds(s.Boundary[n], b)
	}
	for _, m := range s.Deps[n] {
		f := s.Transfers[m]
		for b := range side {
			side[b] = side[b] || holds(f.Gen, b) || values[m][b] && !holds(f.Kill, b)
		}
		for _, c := range f.Copies {
			side[c.To] = side[c.To] || values[m][c.From]
		}
	}
	changed := !slices.Equal(side, values[n])
	values[n] = side
	return changed
}

// evaluations returns the values and the number of evaluations of a system, one evaluation after the other as P12.2 says.
func evaluations(s api.System) ([][]bool, int) {
	values, count := make([][]bool, len(s.Deps)), 0
	for n := range values {
		values[n] = make([]bool, s.Width)
	}
	_, order := wantOrder(s.Deps)
	for _, component := range order {
		once := len(component) == 1 && !slices.Contains(s.Deps[component[0]], component[0])
		for again := true; again; {
			again = false
			for _, n := range component {
				again = evaluateBits(s, values, n) && !once || again
				count++
			}
		}
	}
	return values, count
}

// checkEvaluations compares the solution and the number of evaluations of a system with those from the definitions, and with
// fixpoint.Solve.
func checkEvaluations(t *testing.T, s api.System) {
	t.Helper()
	want, wantCount := evaluations(s)
	values, count := solve(t, s)
	if count != wantCount {
		t.Errorf("Solve of %v has %d evaluations, want %d", s, count, wantCount)
	}
	for n, v := range values {
		for b := range s.Width {
			if holds(v, b) != want[n][b] {
				t.Errorf("the bit %d of the unknown %d of %v is %v", b, n, s, holds(v, b))
			}
		}
	}
	checkLeast(t, s)
}

// checkLeast compares the solution of a system with fixpoint.Solve.
func checkLeast(t *testing.T, s api.System) {
	t.Helper()
	values, _ := solve(t, s)
	if least, _, err := fixpoint.Solve(s); err != api.OK || !same(values, least) {
		t.Errorf("Solve of %v is %q, and that of fixpoint %q, %v", s, textsOf(values), textsOf(least), err)
	}
}

// P12.1: the components of all systems of up to four unknowns.
func TestAllDependencies(t *testing.T) {
	for size := 1; size <= 4; size++ {
		for chosen := range 1 << (size * size) {
			deps := make([][]int, size)
			for i := range size * size {
				if chosen>>i&1 == 1 {
					deps[i/size] = append(deps[i/size], i%size)
				}
			}
			s := plain(t, 1, deps...)
			checkComponents(t, s)
			if size > 3 && chosen%61 != 0 {
				continue
			}
			for n := range deps {
				s.Boundary[n] = setOf(t, 1, 0)
				checkEvaluations(t, s)
				s.Boundary[n] = setOf(t, 1)
			}
		}
	}
}

// someSet returns a set of random members, each with a probability of one in rare.
func someSet(t *testing.T, r *rand.Rand, width, rare int) api.Set {
	t.Helper()
	var members []int
	for b := range width {
		if r.IntN(rare) == 0 {
			members = append(members, b)
		}
	}
	return setOf(t, width, members...)
}

// someFunction returns a random function, which is mostly not canonical.
func someFunction(t *testing.T, r *rand.Rand, width int) api.Transfer {
	t.Helper()
	f := api.Transfer{Gen: someSet(t, r, width, 12), Kill: someSet(t, r, width, 2)}
	for from := range width {
		for to := range width {
			if r.IntN(width) == 0 && len(f.Copies) < api.MaxCopies {
				f.Copies = append(f.Copies, api.Copy{From: from, To: to})
			}
		}
	}
	return f
}

// someDeps returns random dependencies, of which each unknown has about as many as given.
func someDeps(r *rand.Rand, size, each int) [][]int {
	deps := make([][]int, size)
	for n := range deps {
		for m := range size {
			if r.IntN(size) < each {
				deps[n] = append(deps[n], m)
			}
		}
	}
	return deps
}

// someSystem returns a valid system with random parts.
func someSystem(t *testing.T, r *rand.Rand, width, size int) api.System {
	t.Helper()
	s := api.System{Width: width, Deps: someDeps(r, size, 1+r.IntN(2))}
	for range size {
		s.Transfers = append(s.Transfers, someFunction(t, r, width))
		s.Boundary = append(s.Boundary, someSet(t, r, width, 8))
	}
	return s
}

// P12.1, P12.2: generated systems.
func TestGeneratedSystems(t *testing.T) {
	r := rand.New(rand.NewPCG(12, 1))
	for i := range 1500 {
		width, size := r.IntN(9), 1+r.IntN(16)
		if i%4 == 0 {
			width, size = 60+r.IntN(10), 1+r.IntN(6)
		}
		s := someSystem(t, r, width, size)
		checkComponents(t, s)
		checkEvaluations(t, s)
	}
	for range 30 {
		checkComponents(t, plain(t, 0, someDeps(r, 100, 1+r.IntN(2))...))
	}
}

// P12.2: systems in which each unknown depends only on others that come earlier in some order need an evaluation for each.
func TestWithoutCycles(t *testing.T) {
	r := rand.New(rand.NewPCG(12, 2))
	for range 100 {
		size := 1 + r.IntN(40)
		place := r.Perm(size)
		s := someSystem(t, r, 3, size)
		for n := range s.Deps {
			s.Deps[n] = slices.DeleteFunc(s.Deps[n], func(m int) bool { return place[m] >= place[n] })
		}
		checkComponents(t, s)
		checkEvaluations(t, s)
		least, order := divide(t, s)
		if _, count := solve(t, s); count != size || len(order) != size || slices.Max(least) != size-1 {
			t.Errorf("the system %v without cycles has %d evaluations and the components %v", s, count, order)
		}
	}
}

// generate returns the text of a program that is valid unless it has too many nodes.
func generate(r *rand.Rand) string {
	pick := func(list ...string) string { return list[r.IntN(len(list))] }
	variable := func() string { return pick("x", "y", "z", "m", "v"+strconv.Itoa(r.IntN(9))) }
	funcs := []string{"m", "f", "g"}[:1+r.IntN(3)]
	text := ""
	for _, f := range funcs {
		text += "func " + f + "\n"
		blocks := []string{"b0", "b1", "x", "exit", "m"}[:1+r.IntN(5)]
		for _, b := range blocks {
			text += "block " + b + "\n"
			for range r.IntN(1 + r.IntN(20)) {
				text += pick(variable()+" =", variable()+" = "+variable(), variable()+" = "+variable()+" "+variable(), "use "+variable(), "call "+pick(funcs...),
					"source "+variable(), "sink "+variable(), "sanitize "+variable()) + "\n"
			}
			text += pick("return", "goto "+pick(blocks...), "branch "+variable()+" "+pick(blocks...)+" "+pick(blocks...)) + "\n"
		}
		text += "end\n"
	}
	return text
}

// P12.1, P12.2: all analyses of generated programs; those that go forward have the same components as those that go backward.
func TestGeneratedPrograms(t *testing.T) {
	r := rand.New(rand.NewPCG(12, 3))
	valid := 0
	for range 60 {
		p := parse(t, generate(r))
		if _, err := validate.Check(p); err != api.OK {
			continue
		}
		valid++
		live, _ := divide(t, systemOf(t, p, api.KindLive))
		for _, kind := range kinds {
			s := systemOf(t, p, kind)
			checkEvaluations(t, s)
			if least, _ := divide(t, s); !slices.Equal(least, live) {
				t.Errorf("the components of the kind %d of %q are %v, and backward %v", kind, syntax.Inline(p), least, live)
			}
		}
		checkComponents(t, systemOf(t, p, api.KindReach))
		checkComponents(t, systemOf(t, p, api.KindLive))
	}
	if valid < 40 {
		t.Errorf("only %d programs are valid", valid)
	}
}

// ring returns a system in which a bit goes around all unknowns, one unknown in each round, before the next one follows from it.
func ring(t *testing.T) api.System {
	t.Helper()
	deps := make([][]int, api.MaxNodes)
	for n := range deps {
		deps[n] = []int{(n + 1) % api.MaxNodes}
	}
	s := plain(t, api.MaxWidth, deps...)
	s.Boundary[0] = setOf(t, api.MaxWidth, 0)
	for b := range api.MaxWidth - 1 {
		f := &s.Transfers[1+b/api.MaxCopies]
		f.Copies = append(f.Copies, api.Copy{From: b, To: b + 1})
	}
	return s
}

// P12.2: the most evaluations that a ring of all unknowns has, and those of a ring whose unknowns are in ascending order.
func TestMostEvaluations(t *testing.T) {
	s := ring(t)
	checkLeast(t, s)
	rounds := wantRounds(s)
	if _, count := solve(t, s); count != rounds*api.MaxNodes || rounds < 60000 {
		t.Errorf("the ring has %d evaluations, and %d rounds", count, rounds)
	}
	up := plain(t, api.MaxWidth, s.Deps...)
	for n := range up.Deps {
		up.Deps[n] = []int{(n + api.MaxNodes - 1) % api.MaxNodes}
	}
	up.Boundary[0], _ = bitset.Full(api.MaxWidth)
	if _, count := solve(t, up); count != 2*api.MaxNodes {
		t.Errorf("the ring in ascending order has %d evaluations", count)
	}
}

// wantRounds returns the number of rounds of a ring in which each unknown depends on the next one, and only 0 has a boundary, of
// one bit: as each unknown reads what the next one was in the round before, except the last, a bit is in the unknown n a round
// after it, or one that it is copied from, was in the unknown n + 1. It goes from bit to bit.
func wantRounds(s api.System) int {
	type point struct{ unknown, bit int }
	size := len(s.Deps)
	first := map[point]int{{0, 0}: 1}
	last := 0
	for queue := []point{{0, 0}}; len(queue) > 0; queue = queue[1:] {
		p := queue[0]
		round := first[p]
		last = max(last, round)
		n := (p.unknown + size - 1) % size
		if n < p.unknown {
			round++
		}
		bits := []int{p.bit}
		for _, c := range s.Transfers[p.unknown].Copies {
			if c.From == p.bit {
				bits = append(bits, c.To)
			}
		}
		for _, b := range bits {
			if q := (point{n, b}); first[q] == 0 {
				first[q] = round
				queue = append(queue, q)
			}
		}
	}
	return last + 1
}

// P12.1, P12.2: the limits of unknowns, dependencies and width, and one more.
func TestLimits(t *testing.T) {
	all := make([]int, api.MaxNodes)
	for i := range all {
		all[i] = i
	}
	dense := slices.Repeat([][]int{all[:32]}, 32)
	wide := append(slices.Repeat([][]int{all}, 4), make([][]int, api.MaxNodes-4)...)
	line := make([][]int, api.MaxNodes)
	for n := range line[1:] {
		line[n] = []int{n + 1}
	}
	r := rand.New(rand.NewPCG(12, 4))
	for _, deps := range [][][]int{dense, wide, line, someDeps(r, api.MaxNodes, 1), someDeps(r, api.MaxNodes, 2)} {
		s := plain(t, api.MaxWidth, deps...)
		for n := range deps {
			s.Boundary[n] = someSet(t, r, api.MaxWidth, 100)
			s.Transfers[n] = someFunction(t, r, api.MaxWidth)
		}
		checkComponents(t, s)
		checkEvaluations(t, s)
	}
	for width := range api.MaxWidth + 1 {
		s := plain(t, width, nil, []int{0, 1})
		s.Boundary[0], _ = bitset.Full(width)
		checkEvaluations(t, s)
	}
	none(t, plain(t, 1, append(slices.Clone(dense), []int{0})...))
	none(t, plain(t, 1, make([][]int, api.MaxNodes+1)...))
	s := plain(t, 66, []int{0})
	for b := range api.MaxCopies + 1 {
		s.Transfers[0].Copies = append(s.Transfers[0].Copies, api.Copy{From: b, To: b + 1})
	}
	none(t, s)
}

// none checks that all functions say that a system is not valid.
func none(t *testing.T, s api.System) {
	t.Helper()
	if least, err := components.Of(s); least != nil || err != api.ErrInvalid {
		t.Errorf("Of %v is %v, %v", s, least, err)
	}
	if order, err := components.Order(s); order != nil || err != api.ErrInvalid {
		t.Errorf("Order of %v is %v, %v", s, order, err)
	}
	if values, count, err := components.Solve(s); values != nil || count != 0 || err != api.ErrInvalid {
		t.Errorf("Solve of %v is %v, %d, %v", s, values, count, err)
	}
}

// P12.1, P12.2, R1, R5: systems that are not valid.
func TestInvalid(t *testing.T) {
	bad := api.Set{Width: 2, Words: []uint64{4}}
	for _, change := range []func(s *api.System){
		func(s *api.System) { *s = api.System{} }, func(s *api.System) { *s = api.System{Width: 2} }, func(s *api.System) { s.Width = 3 }, func(s *api.System) { s.Width = -1 }, func(s *api.System) { s.Width = 257 },
		func(s *api.System) { s.Deps = s.Deps[:1] }, func(s *api.System) { s.Deps = append(s.Deps, nil) }, func(s *api.System) { s.Transfers = s.Transfers[:1] }, func(s *api.System) { s.Boundary = nil },
		func(s *api.System) { s.Deps[0] = []int{1, 0} }, func(s *api.System) { s.Deps[0] = []int{1, 1} }, func(s *api.System) { s.Deps[1] = []int{2} }, func(s *api.System) { s.Deps[1] = []int{-1} },
		func(s *api.System) { s.Deps[1] = []int{math.MaxInt} }, func(s *api.System) { s.Deps[1] = []int{math.MinInt} }, func(s *api.System) { s.Boundary[1] = bad }, func(s *api.System) { s.Boundary[0] = api.Set{} },
		func(s *api.System) { s.Boundary[0] = setOf(t, 3) }, func(s *api.System) { s.Transfers[1] = api.Transfer{} }, func(s *api.System) { s.Transfers[0].Gen = bad }, func(s *api.System) { s.Transfers[1].Kill = bad },
		func(s *api.System) { s.Transfers[0].Copies = []api.Copy{{To: 2}} }, func(s *api.System) { s.Transfers[0].Copies = []api.Copy{{From: 1}, {From: 0}} },
	} {
		s := plain(t, 2, []int{0, 1}, []int{0})
		change(&s)
		none(t, s)
	}
}

// R3: a nil list and an empty one are equal.
func TestEmptyLists(t *testing.T) {
	for _, words := range [][]uint64{nil, {}} {
		set := api.Set{Words: words}
		for _, deps := range [][]int{nil, {}, {0}} {
			for _, copies := range [][]api.Copy{nil, {}} {
				f := api.Transfer{Gen: set, Kill: set, Copies: copies}
				s := api.System{Deps: [][]int{deps}, Boundary: []api.Set{set}, Transfers: []api.Transfer{f}}
				checkSolve(t, s, 1, "/0")
				if least, order := divide(t, s); !slices.Equal(least, []int{0}) || !sameLists(order, [][]int{{0}}) {
					t.Errorf("the components of %v are %v and %v", s, least, order)
				}
			}
		}
	}
}

func copiedSet(s api.Set) api.Set { return api.Set{Width: s.Width, Words: slices.Clone(s.Words)} }

// copied returns a system that is equal and shares no memory.
func copied(s api.System) api.System {
	c := api.System{Width: s.Width}
	for n, f := range s.Transfers {
		c.Deps = append(c.Deps, slices.Clone(s.Deps[n]))
		c.Boundary = append(c.Boundary, copiedSet(s.Boundary[n]))
		c.Transfers = append(c.Transfers, api.Transfer{Gen: copiedSet(f.Gen), Kill: copiedSet(f.Kill), Copies: slices.Clone(f.Copies)})
	}
	return c
}

// places collects the places of elements of slices, and those that are there more than once.
type places struct {
	seen   map[any]bool
	shared int
}

func addAll[T any](p *places, list []T) {
	list = list[:cap(list)]
	for i := range list {
		if p.seen[&list[i]] {
			p.shared++
		}
		p.seen[&list[i]] = true
	}
}

func (p *places) addSets(sets []api.Set) {
	addAll(p, sets)
	for _, s := range sets {
		addAll(p, s.Words)
	}
}

func (p *places) addLists(lists [][]int) {
	addAll(p, lists)
	for _, list := range lists {
		addAll(p, list)
	}
}

// R2: no function modifies its argument, and no results share memory with each other, with the argument or within themselves.
func TestMemory(t *testing.T) {
	r := rand.New(rand.NewPCG(12, 5))
	found := places{seen: map[any]bool{}}
	for i := range 60 {
		width := 1 + r.IntN(70)
		s := someSystem(t, r, width, 1+r.IntN(8))
		if i%5 == 0 {
			s = plain(t, width, nil, []int{0}, []int{2}, []int{4}, []int{3})
		}
		before := copied(s)
		found.addSets(s.Boundary)
		found.addLists(s.Deps)
		for _, f := range s.Transfers {
			addAll(&found, f.Gen.Words)
			addAll(&found, f.Kill.Words)
			addAll(&found, f.Copies)
		}
		for range 2 {
			least, order := divide(t, s)
			values, _ := solve(t, s)
			addAll(&found, least)
			found.addLists(order)
			found.addSets(values)
		}
		if !reflect.DeepEqual(copied(s), before) {
			t.Errorf("the system %v was modified", before)
		}
	}
	if found.shared > 0 || len(found.seen) == 0 {
		t.Errorf("%d elements of slices are shared", found.shared)
	}
}

package fixpoint_test

import (
	"math"
	"math/rand/v2"
	"reflect"
	"slices"
	"strconv"
	"strings"
	"testing"

	"flowquery/api"
	"flowquery/bitset"
	"flowquery/equations"
	"flowquery/facts"
	"flowquery/fixpoint"
	"flowquery/graph"
	"flowquery/syntax"
	"flowquery/transfer"
	"flowquery/validate"
)

// kinds are all kinds of analyses.
var kinds = []int{api.KindReach, api.KindLive, api.KindTaint, api.KindUninit}

// parse returns the program of a text that must be well formed.
func parse(t *testing.T, text string) api.Program {
	t.Helper()
	p, line, col, err := syntax.Parse(text)
	if err != api.OK {
		t.Fatalf("Parse(%q) is %v at %d, %d", text, err, line, col)
	}
	return p
}

// setOf returns a set with a width and members that must be permitted.
func setOf(t *testing.T, width int, members ...int) api.Set {
	t.Helper()
	s, err := bitset.Of(width, members)
	if err != api.OK {
		t.Fatalf("Of(%d, %v) is %v", width, members, err)
	}
	return s
}

// setsOf returns the sets of these texts.
func setsOf(t *testing.T, texts ...string) []api.Set {
	t.Helper()
	var sets []api.Set
	for _, text := range texts {
		s, err := bitset.Parse(text)
		if err != api.OK {
			t.Fatalf("Parse(%q) is %v", text, err)
		}
		sets = append(sets, s)
	}
	return sets
}

// textsOf returns the texts of sets.
func textsOf(sets []api.Set) []string {
	var texts []string
	for _, s := range sets {
		texts = append(texts, bitset.Text(s))
	}
	return texts
}

// function returns the function that generates gen, kills kill and makes the copies from, to, from, to and so on.
func function(t *testing.T, gen, kill string, copies ...int) api.Transfer {
	t.Helper()
	sets := setsOf(t, gen, kill)
	f := api.Transfer{Gen: sets[0], Kill: sets[1]}
	for pair := range slices.Chunk(copies, 2) {
		f.Copies = append(f.Copies, api.Copy{From: pair[0], To: pair[1]})
	}
	return f
}

// plain returns a system of these dependencies whose functions are identities and whose boundaries are empty.
func plain(t *testing.T, width int, deps ...[]int) api.System {
	t.Helper()
	s := api.System{Width: width, Deps: deps}
	for range deps {
		same, err := transfer.Identity(width)
		if err != api.OK {
			t.Fatalf("Identity(%d) is %v", width, err)
		}
		s.Transfers = append(s.Transfers, same)
		s.Boundary = append(s.Boundary, setOf(t, width))
	}
	return s
}

// webOf returns the web of a system that must be valid.
func webOf(t *testing.T, s api.System) api.Web {
	t.Helper()
	w, err := equations.Web(s)
	if err != api.OK {
		t.Fatalf("the web of %v is %v", s, err)
	}
	return w
}

// systemOf returns the system of an analysis of a program that must have one.
func systemOf(t *testing.T, p api.Program, kind int) api.System {
	t.Helper()
	s, err := equations.Of(p, kind)
	if err != api.OK {
		t.Fatalf("the system of the kind %d of %q is %v", kind, syntax.Inline(p), err)
	}
	return s
}

// solve returns the least solution of a system that must be valid.
func solve(t *testing.T, s api.System) ([]api.Set, int) {
	t.Helper()
	values, number, err := fixpoint.Solve(s)
	if err != api.OK || len(values) != len(s.Deps) {
		t.Fatalf("Solve of %v is %v, %d, %v", s, values, number, err)
	}
	return values, number
}

// next returns the right sides of a system that must be valid, for values that must be permitted.
func next(t *testing.T, s api.System, values []api.Set) []api.Set {
	t.Helper()
	sides, err := fixpoint.Next(s, values)
	if err != api.OK || len(sides) != len(s.Deps) {
		t.Fatalf("Next of %v for %v is %v, %v", s, values, sides, err)
	}
	return sides
}

// same reports whether lists of sets are equal.
func same(a, b []api.Set) bool { return slices.EqualFunc(a, b, bitset.Equal) }

// within reports whether the sets of a list are subsets of those of another.
func within(a, b []api.Set) bool { return slices.EqualFunc(a, b, bitset.Subset) }

// empties returns as many empty sets as a system has unknowns.
func empties(t *testing.T, s api.System) []api.Set {
	t.Helper()
	var values []api.Set
	for range s.Deps {
		values = append(values, setOf(t, s.Width))
	}
	return values
}

// checkSolve compares the least solution of a system and of its web, and the number of the last round, with written-out ones.
func checkSolve(t *testing.T, s api.System, wantNumber int, want ...string) {
	t.Helper()
	values, number := solve(t, s)
	if number != wantNumber || !slices.Equal(textsOf(values), want) {
		t.Errorf("Solve of %v is %q, %d, want %q, %d", s, textsOf(values), number, want, wantNumber)
	}
	if !fixpoint.IsSolution(s, values) || !fixpoint.IsAbove(s, values) {
		t.Errorf("%q is no solution of %v", want, s)
	}
	checkWeb(t, webOf(t, s), want...)
}

// checkWeb compares the least solution of a web with a written-out one.
func checkWeb(t *testing.T, w api.Web, want ...string) {
	t.Helper()
	if values, err := fixpoint.SolveWeb(w); err != api.OK || !slices.Equal(textsOf(values), want) {
		t.Errorf("SolveWeb of %v is %q, %v, want %q", w, textsOf(values), err, want)
	}
}

// P11.1, P11.4: least solutions and numbers of rounds of small systems.
func TestSolve(t *testing.T) {
	one := plain(t, 2, nil)
	checkSolve(t, one, 0, "/2")
	one.Boundary[0] = setOf(t, 2, 1)
	checkSolve(t, one, 1, "1/2")
	one.Transfers[0] = function(t, "0/2", "1/2")
	checkSolve(t, one, 1, "1/2")
	one.Deps[0] = []int{0}
	checkSolve(t, one, 1, "0,1/2")
	one.Transfers[0] = function(t, "/2", "0,1/2")
	checkSolve(t, one, 1, "1/2")
	one.Transfers[0] = function(t, "/2", "0,1/2", 1, 0)
	checkSolve(t, one, 2, "0,1/2")
	one.Transfers[0] = function(t, "/2", "0,1/2", 0, 1)
	checkSolve(t, one, 1, "1/2")
	checkSolve(t, plain(t, 0, []int{0}, []int{0, 1}, nil), 0, "/0", "/0", "/0")

	chain := plain(t, 3, []int{1}, []int{2}, nil, []int{0})
	checkSolve(t, chain, 0, "/3", "/3", "/3", "/3")
	chain.Boundary[2] = setOf(t, 3, 0, 2)
	checkSolve(t, chain, 4, "0,2/3", "0,2/3", "0,2/3", "0,2/3")
	chain.Transfers[1] = function(t, "/3", "0/3", 0, 1)
	checkSolve(t, chain, 4, "1,2/3", "0,2/3", "0,2/3", "1,2/3")
	chain.Boundary[3] = setOf(t, 3, 1)
	chain.Transfers[1] = function(t, "1/3", "0,1,2/3")
	checkSolve(t, chain, 2, "1/3", "0,2/3", "0,2/3", "1/3")

	loop := plain(t, 4, []int{2}, []int{0}, []int{1, 2})
	loop.Boundary[0] = setOf(t, 4, 0)
	loop.Transfers[1] = function(t, "/4", "/4", 0, 1, 1, 2)
	checkSolve(t, loop, 8, "0,1,2/4", "0,1,2/4", "0,1,2/4")
	loop.Transfers[0] = function(t, "/4", "0/4", 1, 3)
	loop.Boundary[1] = setOf(t, 4, 1)
	checkSolve(t, loop, 6, "0,1,2,3/4", "1,2,3/4", "1,2,3/4")
}

// P11.4: the functions of a web belong to its arcs, and two arcs from the same unknown can have different functions.
func TestSolveWeb(t *testing.T) {
	w := api.Web{Width: 3, Boundary: setsOf(t, "0/3", "/3", "2/3"), In: [][]api.Arc{
		nil,
		{{From: 0, F: function(t, "/3", "0/3", 0, 1)}},
		{{From: 0, F: function(t, "/3", "0/3")}, {From: 1, F: function(t, "0/3", "/3")}},
	}}
	checkWeb(t, w, "0/3", "1/3", "0,1,2/3")
	w.In[0] = []api.Arc{{From: 0, F: function(t, "/3", "/3", 2, 1)}, {From: 2, F: function(t, "/3", "0,1/3")}}
	checkWeb(t, w, "0,1,2/3", "1,2/3", "0,1,2/3")
	w.Boundary[0] = setOf(t, 3)
	checkWeb(t, w, "1,2/3", "1,2/3", "0,1,2/3")
}

// P11.1, P11.3: the examples of the chapter.
func TestExamples(t *testing.T) {
	loop := plain(t, 2, []int{0})
	checkSolve(t, loop, 0, "/2")
	for _, text := range []string{"/2", "0/2", "1/2", "0,1/2"} {
		if values := setsOf(t, text); !fixpoint.IsSolution(loop, values) || !fixpoint.IsAbove(loop, values) {
			t.Errorf("%q is no solution of an unknown that depends on itself", text)
		}
	}
	gen := plain(t, 3, nil, []int{0, 1}, []int{3}, []int{2}, nil)
	for n := range gen.Transfers {
		gen.Transfers[n] = function(t, "0/3", "0,1,2/3")
	}
	checkSolve(t, gen, 1, "/3", "0/3", "0/3", "0/3", "/3")

	checkAnswers(t, "func m; block b; x = y; use x; source y; x =; sink x; return; end", api.KindReach,
		"", "", "x@m.b.0", "x@m.b.0", "x@m.b.0 y@m.b.2", "y@m.b.2 x@m.b.3", "y@m.b.2 x@m.b.3", "y@m.b.2 x@m.b.3")
}

// checkAnswers compares the values of all nodes, of an analysis of the program of a text, with written-out facts.
func checkAnswers(t *testing.T, text string, kind int, want ...string) {
	t.Helper()
	p := parse(t, text)
	values, _ := solve(t, systemOf(t, p, kind))
	var got []string
	for _, s := range values {
		names, err := facts.Text(p, kind, s)
		if err != api.OK {
			t.Fatalf("Text of %v is %v", s, err)
		}
		got = append(got, names)
	}
	if !slices.Equal(got, want) {
		t.Errorf("the values of the kind %d of %q are %q, want %q", kind, text, got, want)
	}
}

// P11.1, P0.2: the answers of the document's examples, and those of programs with loops and calls, for each analysis.
func TestAnswers(t *testing.T) {
	checkAnswers(t, "func m; block b; source x; y = x; return; end", api.KindTaint, "", "", "x", "x y", "x y")
	checkAnswers(t, "func m; block b; source x; sanitize x; y = x; return; end", api.KindTaint, "", "", "x", "", "", "")
	checkAnswers(t, "func m; block b; branch x b c; block c; use y; return; end", api.KindLive, "x y", "x y", "", "", "")
	checkAnswers(t, "func m; block b; call f; use x; return; end; func f; block b; x = y; return; end", api.KindReach,
		"", "", "x@f.b.0", "x@f.b.0", "x@f.b.0", "x@f.b.0", "", "", "x@f.b.0", "x@f.b.0")

	text := "func m; block b; source x; goto c; block c; z = y; y = x; branch z c d; block d; sanitize x; return; end"
	checkAnswers(t, text, api.KindTaint, "", "", "x", "x z y", "x z y", "x z y", "x z y", "z y", "z y")
	checkAnswers(t, text, api.KindLive, "y", "x y", "x y", "x z", "x z y", "x y", "", "", "")
	checkAnswers(t, text, api.KindUninit, "x z y", "x z y", "z y", "z y", "z y", "z", "z", "z", "z")
}

// P11.1: in a program without loops, a definition reaches exactly the nodes after it up to the next definition of its variable.
func TestStraightPrograms(t *testing.T) {
	r := rand.New(rand.NewPCG(11, 1))
	for range 100 {
		text, defined := "func m; block b", []string{""}
		for range r.IntN(31) {
			x := []string{"x", "y", "z"}[r.IntN(3)]
			switch r.IntN(4) {
			case 0:
				text, defined = text+"; use "+x, append(defined, "")
			case 1:
				text, defined = text+"; source "+x, append(defined, x)
			default:
				text, defined = text+"; "+x+" = y", append(defined, x)
			}
		}
		text, defined = text+"; return; end", append(defined, "", "")
		want := make([]string, len(defined))
		for i, x := range defined {
			for j := i + 1; x != "" && j < len(defined); j++ {
				want[j] += " " + x + "@m.b." + strconv.Itoa(i-1)
				if defined[j] == x {
					break
				}
			}
		}
		for n := range want {
			want[n] = strings.TrimPrefix(want[n], " ")
		}
		checkAnswers(t, text, api.KindReach, want...)
	}
}

// holds reports whether a valid set has a bit, from its words.
func holds(s api.Set, b int) bool { return s.Words[b/64]>>(b%64)&1 == 1 }

// bitsOf returns the members of a valid set of the web's width, as a list of which bits are members.
func bitsOf(s api.Set) []bool {
	bits := make([]bool, s.Width)
	for b := range bits {
		bits[b] = holds(s, b)
	}
	return bits
}

// firstRounds returns, for each unknown and bit of a web, the number of the first round in which the value has the bit, or 0 if
// none has. It goes from each bit to those that follow from it, in the order of their rounds.
func firstRounds(w api.Web) [][]int {
	type point struct{ unknown, bit int }
	type place struct{ unknown, arc int }
	first, from, queue := make([][]int, len(w.In)), make([][]place, len(w.In)), []point(nil)
	reach := func(n, b, round int) {
		if first[n][b] == 0 {
			first[n][b], queue = round, append(queue, point{n, b})
		}
	}
	for n, arcs := range w.In {
		first[n] = make([]int, w.Width)
		for i, a := range arcs {
			from[a.From] = append(from[a.From], place{n, i})
		}
		for b := range w.Width {
			if holds(w.Boundary[n], b) || slices.ContainsFunc(arcs, func(a api.Arc) bool { return holds(a.F.Gen, b) }) {
				reach(n, b, 1)
			}
		}
	}
	for i := 0; i < len(queue); i++ {
		p := queue[i]
		round := first[p.unknown][p.bit] + 1
		for _, q := range from[p.unknown] {
			f := w.In[q.unknown][q.arc].F
			if !holds(f.Kill, p.bit) {
				reach(q.unknown, p.bit, round)
			}
			for _, c := range f.Copies {
				if c.From == p.bit {
					reach(q.unknown, c.To, round)
				}
			}
		}
	}
	return first
}

// atRound reports whether the values are those of a round, from the first rounds of all bits.
func atRound(values []api.Set, first [][]int, round int) bool {
	for n, s := range values {
		for b, in := range bitsOf(s) {
			if in != (first[n][b] > 0 && first[n][b] <= round) {
				return false
			}
		}
	}
	return len(values) == len(first)
}

// lastOf returns the number of the last round in which a bit is new.
func lastOf(first [][]int) int {
	last := 0
	for _, rounds := range first {
		for _, round := range rounds {
			last = max(last, round)
		}
	}
	return last
}

// checkLeast compares the least solution of a system with firstRounds.
func checkLeast(t *testing.T, s api.System) {
	t.Helper()
	first := firstRounds(webOf(t, s))
	values, number := solve(t, s)
	if number != lastOf(first) || !atRound(values, first, number) {
		t.Errorf("Solve of %v is %q, %d, want the round %d", s, textsOf(values), number, lastOf(first))
	}
	if number > len(s.Deps)*s.Width {
		t.Errorf("the system %v has the round %d", s, number)
	}
	if !fixpoint.IsSolution(s, values) || !fixpoint.IsAbove(s, values) || !same(next(t, s, values), values) {
		t.Errorf("%q is no solution of %v", textsOf(values), s)
	}
	web, err := fixpoint.SolveWeb(webOf(t, s))
	if err != api.OK || !same(web, values) {
		t.Errorf("SolveWeb of the web of %v is %q, %v, want %q", s, textsOf(web), err, textsOf(values))
	}
}

// checkLeastWeb compares the least solution of a web with firstRounds.
func checkLeastWeb(t *testing.T, w api.Web) {
	t.Helper()
	first := firstRounds(w)
	if values, err := fixpoint.SolveWeb(w); err != api.OK || !atRound(values, first, lastOf(first)) {
		t.Errorf("SolveWeb of %v is %q, %v", w, textsOf(values), err)
	}
}

// checkRounds compares all rounds of a system, which Next computes, with firstRounds. Round 0 is empty, and the round that Solve
// returns is the first that equals the next one.
func checkRounds(t *testing.T, s api.System) {
	t.Helper()
	first := firstRounds(webOf(t, s))
	solution, number := solve(t, s)
	values := empties(t, s)
	for round := range number + 1 {
		if !atRound(values, first, round) || !within(values, solution) {
			t.Fatalf("the round %d of %v is %q", round, s, textsOf(values))
		}
		sides := next(t, s, values)
		if same(sides, values) != (round == number) || fixpoint.IsSolution(s, values) != (round == number) || fixpoint.IsAbove(s, values) != (round == number) || !within(values, sides) {
			t.Fatalf("the round after %d of %v is %q, and the last one %d", round, s, textsOf(sides), number)
		}
		values = sides
	}
	if !same(values, solution) {
		t.Errorf("the rounds of %v end with %q, and Solve is %q", s, textsOf(values), textsOf(solution))
	}
}

// rightBits returns which bits the right side of an unknown has, bit by bit, from the definitions.
func rightBits(s api.System, values []api.Set, n int) []bool {
	side := bitsOf(s.Boundary[n])
	for _, m := range s.Deps[n] {
		f := s.Transfers[m]
		for b := range side {
			side[b] = side[b] || holds(f.Gen, b) || holds(values[m], b) && !holds(f.Kill, b)
		}
		for _, c := range f.Copies {
			side[c.To] = side[c.To] || holds(values[m], c.From)
		}
	}
	return side
}

// checkValues compares Next, IsSolution and IsAbove with rightBits.
func checkValues(t *testing.T, s api.System, values []api.Set) {
	t.Helper()
	solution, above := true, true
	sides := next(t, s, values)
	for n, v := range values {
		want, bits := rightBits(s, values, n), bitsOf(v)
		if sides[n].Width != s.Width || !slices.Equal(bitsOf(sides[n]), want) {
			t.Errorf("Next of %v for %q has %q at %d, want %v", s, textsOf(values), textsOf(sides), n, want)
		}
		solution = solution && slices.Equal(want, bits)
		for b := range want {
			above = above && (bits[b] || !want[b])
		}
	}
	if fixpoint.IsSolution(s, values) != solution || fixpoint.IsAbove(s, values) != above {
		t.Errorf("IsSolution of %v for %q is not %v, or IsAbove not %v", s, textsOf(values), solution, above)
	}
	if least, _ := solve(t, s); above && !within(least, values) {
		t.Errorf("%q is above %v, but does not contain %q", textsOf(values), s, textsOf(least))
	}
}

// allValues returns all lists of sets of a width, as many in each as given.
func allValues(t *testing.T, width, size int) [][]api.Set {
	t.Helper()
	if size == 0 {
		return [][]api.Set{nil}
	}
	var lists [][]api.Set
	for _, list := range allValues(t, width, size-1) {
		for word := range 1 << width {
			set := api.Set{Width: width, Words: []uint64{uint64(word)}}
			lists = append(lists, append(slices.Clone(list), set))
		}
	}
	return lists
}

// checkAllValues checks all lists of values of a small system; the least solution is the intersection of all solutions.
func checkAllValues(t *testing.T, s api.System) {
	t.Helper()
	least, _ := solve(t, s)
	var meet []api.Set
	for _, values := range allValues(t, s.Width, len(s.Deps)) {
		checkValues(t, s, values)
		if !fixpoint.IsSolution(s, values) {
			continue
		}
		if meet == nil {
			meet = values
		}
		for n := range meet {
			meet[n], _ = bitset.Inter(meet[n], values[n])
		}
	}
	if !same(meet, least) {
		t.Errorf("the intersection of all solutions of %v is %q, and Solve is %q", s, textsOf(meet), textsOf(least))
	}
}

// P11.1 to P11.4: all values of all systems of one unknown and of width 1, and of the systems of two unknowns of width 1 whose
// functions copy nothing.
func TestSmallSystems(t *testing.T) {
	sets := setsOf(t, "/1", "0/1")
	lists := [][]int{nil, {0}, {1}, {0, 1}}
	var functions []api.Transfer
	for _, gen := range sets {
		for _, kill := range sets {
			functions = append(functions, api.Transfer{Gen: gen, Kill: kill}, api.Transfer{Gen: gen, Kill: kill, Copies: []api.Copy{{}}})
		}
	}
	for _, f := range functions {
		for _, v := range sets {
			for _, deps := range lists[:2] {
				s := api.System{Width: 1, Deps: [][]int{deps}, Transfers: []api.Transfer{f}, Boundary: []api.Set{v}}
				checkAllValues(t, s)
				checkLeast(t, s)
				checkRounds(t, s)
			}
		}
	}
	for i := range 4 * 4 * 4 * 4 * 2 * 2 {
		f, g := functions[i%4*2], functions[i/4%4*2]
		s := api.System{Width: 1, Deps: [][]int{lists[i/16%4], lists[i/64%4]}, Transfers: []api.Transfer{f, g}, Boundary: []api.Set{sets[i/256%2], sets[i/512]}}
		checkAllValues(t, s)
		checkLeast(t, s)
		checkRounds(t, s)
	}
}

// someSet returns a set of random members, each with a probability of one in rare.
func someSet(t *testing.T, r *rand.Rand, width, rare int) api.Set {
	t.Helper()
	var members []int
	for b := range width {
		if r.IntN(rare) == 0 {
			members = append(members, b)
		}
	}
	return setOf(t, width, members...)
}

// someFunction returns a random function, which is mostly not canonical.
func someFunction(t *testing.T, r *rand.Rand, width int) api.Transfer {
	t.Helper()
	f := api.Transfer{Gen: someSet(t, r, width, 12), Kill: someSet(t, r, width, 2)}
	for from := range width {
		for to := range width {
			if r.IntN(width) == 0 && len(f.Copies) < api.MaxCopies {
				f.Copies = append(f.Copies, api.Copy{From: from, To: to})
			}
		}
	}
	return f
}

// someDeps returns random dependencies.
func someDeps(r *rand.Rand, size int) [][]int {
	deps := make([][]int, size)
	for n := range deps {
		for m := range size {
			if r.IntN(size) == 0 || m == n-1 && r.IntN(2) == 0 {
				deps[n] = append(deps[n], m)
			}
		}
	}
	return deps
}

// someSystem returns a valid system with random parts.
func someSystem(t *testing.T, r *rand.Rand, width, size int) api.System {
	t.Helper()
	s := api.System{Width: width, Deps: someDeps(r, size)}
	for range size {
		s.Transfers = append(s.Transfers, someFunction(t, r, width))
		s.Boundary = append(s.Boundary, someSet(t, r, width, 8))
	}
	return s
}

// someWeb returns a valid web with random parts.
func someWeb(t *testing.T, r *rand.Rand, width, size int) api.Web {
	t.Helper()
	w := api.Web{Width: width, In: make([][]api.Arc, size)}
	for n, deps := range someDeps(r, size) {
		w.Boundary = append(w.Boundary, someSet(t, r, width, 8))
		for _, m := range deps {
			w.In[n] = append(w.In[n], api.Arc{From: m, F: someFunction(t, r, width)})
		}
	}
	return w
}

// someValues returns random values of all unknowns of a system.
func someValues(t *testing.T, r *rand.Rand, s api.System) []api.Set {
	t.Helper()
	var values []api.Set
	for range s.Deps {
		values = append(values, someSet(t, r, s.Width, 2))
	}
	return values
}

// P11.1 to P11.4: generated systems and webs, with all values if they are small, and random values otherwise.
func TestGeneratedSystems(t *testing.T) {
	r := rand.New(rand.NewPCG(11, 2))
	for range 150 {
		width := 1 + r.IntN(3)
		s := someSystem(t, r, width, 1+r.IntN(6/width))
		checkAllValues(t, s)
		checkLeast(t, s)
		checkRounds(t, s)
	}
	for i := range 600 {
		width, size := r.IntN(9), 1+r.IntN(12)
		if i%4 == 0 {
			width, size = 60+r.IntN(10), 1+r.IntN(4)
		}
		s := someSystem(t, r, width, size)
		checkLeast(t, s)
		checkRounds(t, s)
		least, _ := solve(t, s)
		for range 4 {
			values := someValues(t, r, s)
			checkValues(t, s, values)
			for n := range values {
				values[n], _ = bitset.Union(values[n], least[n])
			}
			checkValues(t, s, values)
		}
		checkLeastWeb(t, someWeb(t, r, width, size))
	}
}

// P11.3: values that differ from a solution in one bit of one unknown that no other depends on.
func TestOneBit(t *testing.T) {
	s := plain(t, 130, nil, []int{0}, []int{0})
	s.Boundary[0] = setOf(t, 130, 0, 64, 129)
	least, number := solve(t, s)
	if number != 2 || !fixpoint.IsSolution(s, least) {
		t.Errorf("the solution is %q, %d", textsOf(least), number)
	}
	for n := 1; n < 3; n++ {
		for b := range 130 {
			values := slices.Clone(least)
			if bitset.Has(least[n], b) {
				values[n], _ = bitset.Without(least[n], b)
			} else {
				values[n], _ = bitset.With(least[n], b)
			}
			if fixpoint.IsSolution(s, values) || fixpoint.IsAbove(s, values) == bitset.Has(least[n], b) {
				t.Errorf("IsSolution or IsAbove is wrong for the bit %d of the unknown %d", b, n)
			}
		}
	}
}

// generate returns the text of a program that is valid unless it has too many nodes.
func generate(r *rand.Rand) string {
	pick := func(list ...string) string { return list[r.IntN(len(list))] }
	variable := func() string { return pick("x", "y", "z", "m", "v"+strconv.Itoa(r.IntN(9))) }
	funcs := []string{"m", "f", "g"}[:1+r.IntN(3)]
	text := ""
	for _, f := range funcs {
		text += "func " + f + "\n"
		blocks := []string{"b0", "b1", "x", "exit", "m"}[:1+r.IntN(5)]
		for _, b := range blocks {
			text += "block " + b + "\n"
			for range r.IntN(1 + r.IntN(20)) {
				text += pick(variable()+" =", variable()+" = "+variable(), variable()+" = "+variable()+" "+variable(), "use "+variable(), "call "+pick(funcs...),
					"source "+variable(), "sink "+variable(), "sanitize "+variable()) + "\n"
			}
			text += pick("return", "goto "+pick(blocks...), "branch "+variable()+" "+pick(blocks...)+" "+pick(blocks...)) + "\n"
		}
		text += "end\n"
	}
	return text
}

// checkReach compares the values of KindReach with paths of the supergraph: a definition reaches the nodes to which a path leads
// from it on which no node in between defines the same variable.
func checkReach(t *testing.T, p api.Program) {
	t.Helper()
	g, err := graph.Build(p)
	list, errList := facts.List(p, api.KindReach)
	if err != api.OK || errList != api.OK {
		t.Fatalf("the graph or the facts of %q are %v, %v", syntax.Inline(p), err, errList)
	}
	defined := make([]string, len(g.Nodes))
	for i, n := range g.Nodes {
		if n.Kind == api.NodeStmt {
			defined[i] = p.Funcs[n.Func].Blocks[n.Block].Stmts[n.Stmt].Def
		}
	}
	values, _ := solve(t, systemOf(t, p, api.KindReach))
	for b, fact := range list {
		reached := make([]bool, len(g.Nodes))
		for queue := slices.Clone(g.Succ[fact.Node]); len(queue) > 0; {
			n := queue[0]
			queue = queue[1:]
			if reached[n] {
				continue
			}
			reached[n] = true
			if defined[n] != defined[fact.Node] {
				queue = append(queue, g.Succ[n]...)
			}
		}
		for n, want := range reached {
			if holds(values[n], b) != want {
				t.Errorf("the definition at %d of %q reaches %d: %v, want %v", fact.Node, syntax.Inline(p), n, !want, want)
			}
		}
	}
}

// P11.1 to P11.4: all analyses of generated programs.
func TestGeneratedPrograms(t *testing.T) {
	r := rand.New(rand.NewPCG(11, 3))
	valid := 0
	for range 60 {
		p := parse(t, generate(r))
		if _, err := validate.Check(p); err != api.OK {
			continue
		}
		valid++
		checkReach(t, p)
		for _, kind := range kinds {
			s := systemOf(t, p, kind)
			checkLeast(t, s)
			checkValues(t, s, someValues(t, r, s))
			if valid%10 == 0 {
				checkRounds(t, s)
			}
		}
	}
	if valid < 40 {
		t.Errorf("only %d programs are valid", valid)
	}
}

// P11.1, P11.4: the most rounds: a bit goes around all unknowns before the next one follows from it.
func TestMostRounds(t *testing.T) {
	deps := make([][]int, api.MaxNodes)
	for n := range deps {
		deps[n] = []int{(n + api.MaxNodes - 1) % api.MaxNodes}
	}
	s := plain(t, api.MaxWidth, deps...)
	s.Boundary[0] = setOf(t, api.MaxWidth, 0)
	checkLeast(t, s)
	if _, number := solve(t, s); number != api.MaxNodes {
		t.Errorf("a bit goes around in %d rounds", number)
	}
	for b := range api.MaxWidth - 1 {
		f := &s.Transfers[api.MaxNodes-1-b/api.MaxCopies]
		f.Copies = append(f.Copies, api.Copy{From: b, To: b + 1})
	}
	checkLeast(t, s)
	if _, number := solve(t, s); number != api.MaxNodes*api.MaxWidth-3 {
		t.Errorf("all bits go around in %d rounds", number)
	}
}

// P11.1: as many rounds as there are unknowns times the width.
func TestAllRounds(t *testing.T) {
	for size := 1; size <= 9; size++ {
		deps := make([][]int, size)
		for n := range deps {
			deps[n] = []int{(n + size - 1) % size}
		}
		s := plain(t, api.MaxCopies+1, deps...)
		s.Boundary[0] = setOf(t, api.MaxCopies+1, 0)
		for b := range api.MaxCopies {
			s.Transfers[size-1].Copies = append(s.Transfers[size-1].Copies, api.Copy{From: b, To: b + 1})
		}
		if values, number := solve(t, s); number != size*(api.MaxCopies+1) || bitset.Count(values[size-1]) != s.Width {
			t.Errorf("%d unknowns have %q after %d rounds", size, textsOf(values), number)
		}
		checkRounds(t, s)
	}
}

// P11.1 to P11.4: the limits of unknowns, dependencies and copies, and one more.
func TestLimits(t *testing.T) {
	all := make([]int, api.MaxNodes)
	for i := range all {
		all[i] = i
	}
	dense := slices.Repeat([][]int{all[:32]}, 32)
	r := rand.New(rand.NewPCG(11, 4))
	for _, deps := range [][][]int{dense, append(slices.Repeat([][]int{all}, 4), make([][]int, api.MaxNodes-4)...)} {
		s := plain(t, api.MaxWidth, deps...)
		for n := range deps {
			s.Boundary[n] = someSet(t, r, api.MaxWidth, 100)
			s.Transfers[n] = someFunction(t, r, api.MaxWidth)
		}
		checkLeast(t, s)
		checkValues(t, s, someValues(t, r, s))
	}
	for width := range api.MaxWidth + 1 {
		s := plain(t, width, nil, []int{0})
		s.Boundary[0], _ = bitset.Full(width)
		checkLeast(t, s)
	}
	none(t, plain(t, 1, append(slices.Clone(dense), []int{0})...))
	none(t, plain(t, 1, make([][]int, api.MaxNodes+1)...))
	s := plain(t, 66, []int{0})
	for b := range api.MaxCopies + 1 {
		s.Transfers[0].Copies = append(s.Transfers[0].Copies, api.Copy{From: b, To: b + 1})
	}
	none(t, s)
}

// none checks that a system, which is not valid, and the web of its parts have no solutions: all functions say so.
func none(t *testing.T, s api.System) {
	t.Helper()
	if values, number, err := fixpoint.Solve(s); values != nil || number != 0 || err != api.ErrInvalid {
		t.Errorf("Solve of %v is %v, %d, %v", s, values, number, err)
	}
	for _, values := range [][]api.Set{nil, {}, s.Boundary, {{Width: -1}}, slices.Repeat([]api.Set{{}}, len(s.Deps)), slices.Repeat([]api.Set{setOf(t, 2)}, len(s.Deps))} {
		if sides, err := fixpoint.Next(s, values); sides != nil || err != api.ErrInvalid {
			t.Errorf("Next of %v for %v is %v, %v", s, values, sides, err)
		}
		if fixpoint.IsSolution(s, values) || fixpoint.IsAbove(s, values) {
			t.Errorf("%v has the solution %v", s, values)
		}
	}
}

// noWeb checks that a web has no solution.
func noWeb(t *testing.T, w api.Web) {
	t.Helper()
	if values, err := fixpoint.SolveWeb(w); values != nil || err != api.ErrInvalid {
		t.Errorf("SolveWeb of %v is %v, %v", w, values, err)
	}
}

// P11.1 to P11.4, R1, R5: systems and webs that are not valid.
func TestInvalid(t *testing.T) {
	bad := api.Set{Width: 2, Words: []uint64{4}}
	for _, change := range []func(s *api.System){
		func(s *api.System) { *s = api.System{} }, func(s *api.System) { *s = api.System{Width: 2} }, func(s *api.System) { s.Width = 3 }, func(s *api.System) { s.Width = -1 }, func(s *api.System) { s.Width = 257 },
		func(s *api.System) { s.Deps = s.Deps[:1] }, func(s *api.System) { s.Deps = append(s.Deps, nil) }, func(s *api.System) { s.Transfers = s.Transfers[:1] }, func(s *api.System) { s.Boundary = nil },
		func(s *api.System) { s.Deps[0] = []int{1, 0} }, func(s *api.System) { s.Deps[0] = []int{1, 1} }, func(s *api.System) { s.Deps[1] = []int{2} }, func(s *api.System) { s.Deps[1] = []int{-1} },
		func(s *api.System) { s.Deps[1] = []int{math.MaxInt} }, func(s *api.System) { s.Deps[1] = []int{math.MinInt} }, func(s *api.System) { s.Boundary[1] = bad }, func(s *api.System) { s.Boundary[0] = api.Set{} },
		func(s *api.System) { s.Boundary[0] = setOf(t, 3) }, func(s *api.System) { s.Transfers[1] = api.Transfer{} }, func(s *api.System) { s.Transfers[0].Gen = bad }, func(s *api.System) { s.Transfers[1].Kill = bad },
		func(s *api.System) { s.Transfers[0].Copies = []api.Copy{{To: 2}} }, func(s *api.System) { s.Transfers[0].Copies = []api.Copy{{From: 1}, {From: 0}} },
	} {
		s := plain(t, 2, []int{0, 1}, []int{0})
		change(&s)
		none(t, s)
	}
	for _, change := range []func(w *api.Web){
		func(w *api.Web) { *w = api.Web{} }, func(w *api.Web) { *w = api.Web{Width: 2} }, func(w *api.Web) { w.Width = 3 }, func(w *api.Web) { w.Width = -1 }, func(w *api.Web) { w.Width = 257 },
		func(w *api.Web) { w.In = w.In[:1] }, func(w *api.Web) { w.In = append(w.In, nil) }, func(w *api.Web) { w.Boundary = nil }, func(w *api.Web) { w.Boundary[1] = bad },
		func(w *api.Web) { w.In[0][1].From = 0 }, func(w *api.Web) { w.In[0][1].From = 2 }, func(w *api.Web) { w.In[0][0].From = -1 }, func(w *api.Web) { w.In[0][0].From = 1 }, func(w *api.Web) { w.In[1][0].From = math.MaxInt },
		func(w *api.Web) { w.In[1][0].F = api.Transfer{} }, func(w *api.Web) { w.In[0][1].F.Gen = bad }, func(w *api.Web) { w.In[0][1].F = function(t, "/3", "/3") }, func(w *api.Web) { w.In[0][1].F.Copies = []api.Copy{{From: -1}} },
	} {
		w := webOf(t, plain(t, 2, []int{0, 1}, []int{0}))
		change(&w)
		noWeb(t, w)
	}
	all := make([]int, 33)
	for i := range all {
		all[i] = i
	}
	for _, deps := range [][][]int{make([][]int, api.MaxNodes+1), slices.Repeat([][]int{all}, 33)} {
		s := plain(t, 1, deps...)
		w := api.Web{Width: 1, Boundary: s.Boundary, In: make([][]api.Arc, len(deps))}
		for n, list := range deps {
			for _, m := range list {
				w.In[n] = append(w.In[n], api.Arc{From: m, F: s.Transfers[m]})
			}
		}
		noWeb(t, w)
	}
}

// checkError checks the error of Next for values that are not permitted, and that they are no solution.
func checkError(t *testing.T, s api.System, values []api.Set, want api.Errno) {
	t.Helper()
	if sides, err := fixpoint.Next(s, values); sides != nil || err != want {
		t.Errorf("Next of %v for %v is %v, %v, want the error %v", s, values, sides, err, want)
	}
	if fixpoint.IsSolution(s, values) || fixpoint.IsAbove(s, values) {
		t.Errorf("%v has the solution %v", s, values)
	}
	for n := range s.Deps {
		if _, err := equations.Right(s, values, n); err != want {
			t.Errorf("Right of %v for %v and the unknown %d is %v, want %v", s, values, n, err, want)
		}
	}
}

// P11.2, P11.3, R4, R5: values that are not permitted, at each unknown, also at one that no other depends on.
func TestInvalidValues(t *testing.T) {
	s := plain(t, 2, nil, []int{0}, nil)
	good, wide, bad := setOf(t, 2, 1), setOf(t, 3), api.Set{Width: 2, Words: []uint64{4}}
	if values := []api.Set{good, good, good}; !fixpoint.IsAbove(s, values) || fixpoint.IsSolution(s, values) {
		t.Errorf("IsAbove or IsSolution is wrong for %v", values)
	}
	for _, values := range [][]api.Set{nil, {}, {good}, {good, good}, {good, good, good, good}, {wide, wide}, {wide, wide, wide, wide}, {bad, wide, wide}, {wide, wide, bad}, {wide, bad, good}} {
		checkError(t, s, values, api.ErrInvalid)
	}
	for n := range 3 {
		for _, set := range []api.Set{{Width: 2}, bad, {Width: 2, Words: []uint64{math.MaxUint64}}, {Width: 2, Words: []uint64{1, 0}}, {Width: -1}, {Width: 257, Words: make([]uint64, 5)}, {Width: math.MinInt}, {Width: math.MaxInt}, {Words: []uint64{0}}} {
			values := []api.Set{good, good, good}
			values[n] = set
			checkError(t, s, values, api.ErrInvalid)
		}
		for _, set := range []api.Set{{}, setOf(t, 1), wide, setOf(t, 66, 65), setOf(t, 256)} {
			values := []api.Set{good, good, good}
			values[n] = set
			checkError(t, s, values, api.ErrWidth)
		}
	}
}

// P11.2: Next returns what Right returns, for each unknown.
func TestNext(t *testing.T) {
	r := rand.New(rand.NewPCG(11, 5))
	for range 100 {
		s := someSystem(t, r, r.IntN(70), 1+r.IntN(6))
		values := someValues(t, r, s)
		for n, side := range next(t, s, values) {
			if want, err := equations.Right(s, values, n); err != api.OK || !bitset.Equal(side, want) {
				t.Errorf("Next of %v for %q has %q at %d, want %q, %v", s, textsOf(values), bitset.Text(side), n, bitset.Text(want), err)
			}
		}
	}
}

// R3: a nil list and an empty one are equal.
func TestEmptyLists(t *testing.T) {
	for _, words := range [][]uint64{nil, {}} {
		set := api.Set{Words: words}
		for _, deps := range [][]int{nil, {}, {0}} {
			for _, copies := range [][]api.Copy{nil, {}} {
				f := api.Transfer{Gen: set, Kill: set, Copies: copies}
				s := api.System{Deps: [][]int{deps}, Boundary: []api.Set{set}, Transfers: []api.Transfer{f}}
				checkSolve(t, s, 0, "/0")
				if sides := next(t, s, []api.Set{set}); bitset.Text(sides[0]) != "/0" || !fixpoint.IsSolution(s, []api.Set{set}) || !fixpoint.IsAbove(s, []api.Set{set}) {
					t.Errorf("the system %v of the width 0 has the right sides %v", s, sides)
				}
			}
		}
		checkWeb(t, api.Web{Boundary: []api.Set{set}, In: [][]api.Arc{{}}}, "/0")
	}
}

func copiedSet(s api.Set) api.Set { return api.Set{Width: s.Width, Words: slices.Clone(s.Words)} }

func copiedSets(sets []api.Set) []api.Set {
	var list []api.Set
	for _, s := range sets {
		list = append(list, copiedSet(s))
	}
	return list
}

func copiedFunction(f api.Transfer) api.Transfer {
	return api.Transfer{Gen: copiedSet(f.Gen), Kill: copiedSet(f.Kill), Copies: slices.Clone(f.Copies)}
}

// copied returns a system that is equal and shares no memory.
func copied(s api.System) api.System {
	c := api.System{Width: s.Width, Boundary: copiedSets(s.Boundary)}
	for n := range s.Deps {
		c.Deps = append(c.Deps, slices.Clone(s.Deps[n]))
		c.Transfers = append(c.Transfers, copiedFunction(s.Transfers[n]))
	}
	return c
}

// copiedWeb returns a web that is equal and shares no memory.
func copiedWeb(w api.Web) api.Web {
	c := api.Web{Width: w.Width, Boundary: copiedSets(w.Boundary), In: make([][]api.Arc, len(w.In))}
	for n, arcs := range w.In {
		for _, a := range arcs {
			c.In[n] = append(c.In[n], api.Arc{From: a.From, F: copiedFunction(a.F)})
		}
	}
	return c
}

// places collects the places of elements of slices, and those that are there more than once.
type places struct {
	seen   map[any]bool
	shared int
}

func addAll[T any](p *places, list []T) {
	list = list[:cap(list)]
	for i := range list {
		if p.seen[&list[i]] {
			p.shared++
		}
		p.seen[&list[i]] = true
	}
}

func (p *places) addSets(sets []api.Set) {
	addAll(p, sets)
	for _, s := range sets {
		addAll(p, s.Words)
	}
}

// R2: no function modifies its arguments, and no results share memory with each other, with arguments or within themselves.
func TestMemory(t *testing.T) {
	r := rand.New(rand.NewPCG(11, 6))
	found := places{seen: map[any]bool{}}
	for i := range 60 {
		width := 1 + r.IntN(70)
		s, w := someSystem(t, r, width, 1+r.IntN(6)), someWeb(t, r, width, 1+r.IntN(6))
		if i%5 == 0 {
			s = plain(t, width, make([][]int, 4)...)
		}
		values := someValues(t, r, s)
		if i%2 == 0 {
			values, _ = solve(t, s)
		}
		before, webBefore, valuesBefore := copied(s), copiedWeb(w), copiedSets(values)
		found.addSets(s.Boundary)
		found.addSets(w.Boundary)
		found.addSets(values)
		for _, f := range s.Transfers {
			addAll(&found, f.Gen.Words)
			addAll(&found, f.Kill.Words)
		}
		for range 2 {
			least, _ := solve(t, s)
			web, err := fixpoint.SolveWeb(w)
			if err != api.OK {
				t.Fatalf("SolveWeb of %v is %v", w, err)
			}
			found.addSets(least)
			found.addSets(web)
			found.addSets(next(t, s, values))
			fixpoint.IsSolution(s, values)
			fixpoint.IsAbove(s, values)
		}
		if !reflect.DeepEqual(copied(s), before) || !reflect.DeepEqual(copiedWeb(w), webBefore) || !reflect.DeepEqual(copiedSets(values), valuesBefore) {
			t.Errorf("the system %v, the web %v or the values %v were modified", before, webBefore, valuesBefore)
		}
	}
	if found.shared > 0 || len(found.seen) == 0 {
		t.Errorf("%d elements of slices are shared", found.shared)
	}
}

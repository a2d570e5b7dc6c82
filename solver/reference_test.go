package solver_test

import (
	"math"
	"math/rand/v2"
	"slices"
	"strconv"
	"testing"

	"flowquery/api"
	"flowquery/bitset"
	"flowquery/cone"
	"flowquery/fixpoint"
	"flowquery/solver"
	"flowquery/syntax"
	"flowquery/validate"
)

// isNode reports whether n is the Node of an element of k.
func isNode(k []api.Known, n int) bool {
	return slices.ContainsFunc(k, func(e api.Known) bool { return e.Node == n })
}

// isUnknown reports whether n is an unknown of s.
func isUnknown(s api.System, n int) bool { return n >= 0 && n < len(s.Deps) }

// isSet reports whether v is a valid set of the width of s.
func isSet(s api.System, v api.Set) bool { return bitset.Valid(v) && v.Width == s.Width }

// isValid reports whether a state is valid for a valid system, from the definition.
func isValid(s api.System, k []api.Known, st api.State) bool {
	for i, e := range k {
		if !isUnknown(s, e.Node) || !isSet(s, e.Value) || i > 0 && k[i-1].Node >= e.Node {
			return false
		}
	}
	for i, n := range st.Cone {
		if !isUnknown(s, n) || slices.Contains(st.Cone[:i], n) {
			return false
		}
	}
	if len(st.Cone) == 0 || len(st.Leaf) != len(st.Cone) || st.Steps < 0 || st.Steps > api.MaxCounter {
		return false
	}
	switch st.Phase {
	case api.PhaseDemand:
		return isDemand(s, k, st)
	case api.PhaseSolve:
		return isSolving(s, k, st) && len(st.Queue) > 0
	case api.PhaseDone:
		return isSolving(s, k, st) && len(st.Queue) == 0
	}
	return false
}

// isDemand reports what isValid does, for what is special to PhaseDemand.
func isDemand(s api.System, k []api.Known, st api.State) bool {
	if st.At < 0 || st.At >= len(st.Cone) || len(st.Values) != 0 || len(st.Queue) != 0 {
		return false
	}
	for i, n := range st.Cone {
		if st.Leaf[i] != (i < st.At && isNode(k, n)) {
			return false
		}
	}
	at := st.Cone[st.At]
	if st.Edge < 0 || st.Edge > len(s.Deps[at]) || st.Edge > 0 && isNode(k, at) {
		return false
	}
	demanded := slices.Clone(s.Deps[at][:st.Edge])
	for i := range st.At {
		if !st.Leaf[i] {
			demanded = append(demanded, s.Deps[st.Cone[i]]...)
		}
	}
	return !slices.ContainsFunc(demanded, func(m int) bool { return !slices.Contains(st.Cone, m) })
}

// isSolving reports what isValid does, for what is special to the other phases, but for the length of the queue.
func isSolving(s api.System, k []api.Known, st api.State) bool {
	var leaves []int
	for i, n := range st.Cone {
		if st.Leaf[i] != isNode(k, n) {
			return false
		}
		if st.Leaf[i] {
			leaves = append(leaves, n)
		}
	}
	for i, j := range st.Queue {
		if j < 0 || j >= len(st.Cone) || slices.Contains(st.Queue[:i], j) {
			return false
		}
	}
	return st.At == 0 && st.Edge == 0 && cone.Closed(s, st.Cone, leaves) &&
		len(st.Values) == len(st.Cone) && !slices.ContainsFunc(st.Values, func(v api.Set) bool { return !isSet(s, v) })
}

// stepped returns the state after a step of a valid one that is not done, and the cost, from the definition.
func stepped(s api.System, k []api.Known, st api.State) (api.State, int) {
	st, cost := copiedState(st), 1
	if st.Phase == api.PhaseSolve {
		cost = solveStep(s, &st)
	} else {
		demandStep(s, k, &st)
	}
	if st.Steps < api.MaxCounter {
		st.Steps++
	}
	return st, cost
}

func demandStep(s api.System, k []api.Known, st *api.State) {
	c := st.Cone[st.At]
	if st.Edge == 0 && isNode(k, c) {
		st.Leaf[st.At] = true
	}
	if !st.Leaf[st.At] && st.Edge < len(s.Deps[c]) {
		if m := s.Deps[c][st.Edge]; !slices.Contains(st.Cone, m) {
			st.Cone, st.Leaf = append(st.Cone, m), append(st.Leaf, false)
		}
		st.Edge++
		return
	}
	st.At, st.Edge = st.At+1, 0
	if st.At < len(st.Cone) {
		return
	}
	st.Phase, st.At, st.Values, st.Queue = api.PhaseSolve, 0, nil, nil
	for i, n := range st.Cone {
		st.Values = append(st.Values, copiedSet(s.Boundary[n]))
		st.Queue = append([]int{i}, st.Queue...)
		for _, e := range k {
			if e.Node == n {
				st.Values[i] = copiedSet(e.Value)
			}
		}
	}
}

func solveStep(s api.System, st *api.State) int {
	i, cost := st.Queue[0], 1
	st.Queue = slices.Delete(st.Queue, 0, 1)
	for j, n := range st.Cone {
		if st.Leaf[j] || !slices.Contains(s.Deps[n], st.Cone[i]) {
			continue
		}
		cost++
		v := joined(st.Values[j], s.Transfers[st.Cone[i]], st.Values[i])
		if bitset.Text(v) != bitset.Text(st.Values[j]) {
			st.Values[j] = v
			if !slices.Contains(st.Queue, j) {
				st.Queue = append(st.Queue, j)
			}
		}
	}
	if len(st.Queue) == 0 {
		st.Phase = api.PhaseDone
	}
	return min(cost, 8)
}

// joined returns the union of v and f of w, bit by bit.
func joined(v api.Set, f api.Transfer, w api.Set) api.Set {
	bits := slices.Concat(bitset.Members(v), bitset.Members(f.Gen))
	for _, a := range bitset.Members(w) {
		if !bitset.Has(f.Kill, a) {
			bits = append(bits, a)
		}
		for _, c := range f.Copies {
			if c.From == a {
				bits = append(bits, c.To)
			}
		}
	}
	union, _ := bitset.Of(v.Width, bits)
	return union
}

// checkState compares Valid with the definition for a state of a valid system, and a step if it is. It returns whether it is
// valid.
func checkState(t *testing.T, s api.System, k []api.Known, st api.State) bool {
	t.Helper()
	if !isValid(s, k, st) {
		checkInvalid(t, "a state", s, k, st)
		return false
	}
	if !solver.Valid(s, k, st) {
		t.Errorf("the state %q of %v with %v is not valid", describe(st), s, k)
	}
	if st.Phase == api.PhaseDone {
		checkFinished(t, s, k, st)
		return true
	}
	want, wantCost := stepped(s, k, st)
	if got, cost, err := solver.Step(s, k, st); describe(got) != describe(want) || cost != wantCost || err != api.OK {
		t.Errorf("a step from %q of %v with %v leads to %q, %d, %v, want %q, %d", describe(st), s, k, describe(got), cost, err, describe(want), wantCost)
	}
	return true
}

// smallSystems returns systems of one or two unknowns, with all dependencies, and values for all lists of known unknowns.
func smallSystems(t *testing.T) ([]api.System, [][][]api.Known) {
	t.Helper()
	var systems []api.System
	var known [][][]api.Known
	for _, deps := range lists([]int{0, 1, 2, 3}, 2)[1:] {
		var choices [][]int
		for _, number := range deps {
			choices = append(choices, [][]int{nil, {0}, {1}, {0, 1}}[number])
		}
		if len(deps) == 1 && deps[0] > 1 {
			continue
		}
		s := plain(t, 1, choices...)
		s.Boundary[0] = setOf(t, "0/1")
		systems = append(systems, s)
		k := [][]api.Known{nil, {knownOf(t, 0, "/1")}}
		if len(deps) == 2 {
			k = append(k, []api.Known{knownOf(t, 1, "0/1")}, []api.Known{knownOf(t, 0, "0/1"), knownOf(t, 1, "/1")})
		}
		known = append(known, k)
	}
	return systems, known
}

// allMarks returns all lists of bools up to a length.
func allMarks(most int) [][]bool {
	var all [][]bool
	for _, list := range lists([]int{0, 1}, most) {
		var marks []bool
		for _, n := range list {
			marks = append(marks, n == 1)
		}
		all = append(all, marks)
	}
	return all
}

// P15.1, P15.2: all small states of PhaseDemand.
func TestAllDemands(t *testing.T) {
	systems, known := smallSystems(t)
	count := 0
	for number, s := range systems {
		for _, k := range known[number] {
			for _, list := range lists([]int{-1, 0, 1, 2}, 2) {
				for _, leaf := range allMarks(2) {
					for place := range 16 {
						st := api.State{Phase: api.PhaseDemand, Cone: list, Leaf: leaf, At: place/4 - 1, Edge: place%4 - 1}
						if checkState(t, s, k, st) {
							count++
						}
					}
				}
			}
		}
	}
	if count < 300 {
		t.Errorf("only %d states are valid", count)
	}
}

// P15.1, P15.2: many small states of the other phases.
func TestSmallStates(t *testing.T) {
	systems, known := smallSystems(t)
	values := [][]api.Set{nil}
	for _, list := range lists([]int{0, 1}, 2)[1:] {
		var sets []api.Set
		for _, n := range list {
			sets = append(sets, setOf(t, []string{"/1", "0/1"}[n]))
		}
		values = append(values, sets)
	}
	count := 0
	for number, s := range systems {
		for _, k := range known[number] {
			for _, list := range lists([]int{0, 1, 2}, 2) {
				for _, leaf := range allMarks(2) {
					for _, v := range values {
						for _, queue := range lists([]int{0, 1, 2}, 2) {
							st := api.State{Phase: api.PhaseSolve, Cone: list, Leaf: leaf, Values: v, Queue: queue}
							if len(queue) == 0 && checkState(t, s, k, api.State{Phase: api.PhaseDone, Cone: list, Leaf: leaf, Values: v}) || checkState(t, s, k, st) {
								count++
							}
						}
					}
				}
			}
		}
	}
	if count < 2500 {
		t.Errorf("only %d states are valid", count)
	}
}

// leastOf returns the least solution of a system that must be valid.
func leastOf(t *testing.T, s api.System) []api.Set {
	t.Helper()
	least, _, err := fixpoint.Solve(s)
	if err != api.OK {
		t.Fatalf("the least solution of %v is %v", s, err)
	}
	return least
}

// someSet returns a set of random members, each with a probability of one in rare.
func someSet(r *rand.Rand, width, rare int) api.Set {
	var members []int
	for b := range width {
		if r.IntN(rare) == 0 {
			members = append(members, b)
		}
	}
	s, _ := bitset.Of(width, members)
	return s
}

// someFunction returns a random function, which is mostly not canonical.
func someFunction(r *rand.Rand, width int) api.Transfer {
	f := api.Transfer{Gen: someSet(r, width, 12), Kill: someSet(r, width, 2)}
	for from := range width {
		for to := range width {
			if r.IntN(width) == 0 && len(f.Copies) < api.MaxCopies {
				f.Copies = append(f.Copies, api.Copy{From: from, To: to})
			}
		}
	}
	return f
}

// someSystem returns a valid system with random parts.
func someSystem(r *rand.Rand, width, size int) api.System {
	s, each := api.System{Width: width, Deps: make([][]int, size)}, 1+r.IntN(2)
	for n := range size {
		for m := range size {
			if r.IntN(size) < each {
				s.Deps[n] = append(s.Deps[n], m)
			}
		}
		s.Transfers = append(s.Transfers, someFunction(r, width))
		s.Boundary = append(s.Boundary, someSet(r, width, 8))
	}
	return s
}

// someLeaves returns random unknowns, ascending.
func someLeaves(r *rand.Rand, size int) []int {
	var leaves []int
	rare := 1 + r.IntN(8)
	for n := range size {
		if rare < 7 && r.IntN(2+rare) == 0 {
			leaves = append(leaves, n)
		}
	}
	return leaves
}

// someKnown returns random values of random unknowns.
func someKnown(r *rand.Rand, s api.System) []api.Known {
	var k []api.Known
	for _, n := range someLeaves(r, len(s.Deps)) {
		k = append(k, api.Known{Node: n, Value: someSet(r, s.Width, 2)})
	}
	return k
}

// leastKnown returns the values of the least solution for random unknowns.
func leastKnown(r *rand.Rand, least []api.Set) []api.Known {
	var k []api.Known
	for _, n := range someLeaves(r, len(least)) {
		k = append(k, api.Known{Node: n, Value: least[n]})
	}
	return k
}

// checkRun compares all steps from the start with the definition, and returns the states, of which the last one is done.
func checkRun(t *testing.T, r *rand.Rand, s api.System, k []api.Known, root int) []api.State {
	t.Helper()
	states, costs := []api.State{solver.Start(root)}, []int{0}
	for last := states[0]; last.Phase != api.PhaseDone; {
		if !checkState(t, s, k, last) {
			t.Fatalf("the state %q of %v with %v is not valid", describe(last), s, k)
		}
		next, cost, _ := solver.Step(s, k, last)
		states, costs, last = append(states, next), append(costs, costs[len(costs)-1]+cost), next
	}
	end := len(states) - 1
	checkState(t, s, k, states[end])
	for range 4 {
		// Each run goes on from any state to any later one, or beyond the last one.
		from := r.IntN(len(states))
		steps := r.IntN(len(states)-from) + 20*r.IntN(2)
		to := min(from+steps, end)
		if got, cost, err := solver.Run(s, k, states[from], steps); describe(got) != describe(states[to]) || cost != costs[to]-costs[from] || err != api.OK {
			t.Errorf("%d steps from %q of %v with %v lead to %q, %d, %v, want %q", steps, describe(states[from]), s, k, describe(got), cost, err, describe(states[to]))
		}
	}
	return states
}

// checkSolved checks what the last of the states from the start has: the cone, its values in the least solution of the cone,
// and what is told of them; and the numbers of steps.
func checkSolved(t *testing.T, s api.System, k []api.Known, states []api.State) {
	t.Helper()
	var leaves, used []int
	for _, e := range k {
		leaves = append(leaves, e.Node)
	}
	last := states[len(states)-1]
	list, cost, err := cone.Of(s, states[0].Cone[0], leaves)
	restricted, errRestrict := cone.Restrict(s, list, k)
	if err != api.OK || errRestrict != api.OK || !slices.Equal(last.Cone, list) || states[cost].Phase != api.PhaseSolve || states[cost-1].Phase != api.PhaseDemand {
		t.Fatalf("the cone is %v, %v, %v, and is found in %d steps; the states end with %q", list, err, errRestrict, cost, describe(last))
	}
	if most := cost + len(list)*(s.Width+1); len(states)-1 > most || last.Steps != len(states)-1 {
		t.Errorf("there are %d steps, more than %d, or not so many as in %q", len(states)-1, most, describe(last))
	}
	values := leastOf(t, restricted)
	var final []string
	for n := range s.Deps {
		i := slices.Index(list, n)
		switch {
		case i < 0:
		case isNode(k, n):
			used = append(used, n)
		default:
			final = append(final, strconv.Itoa(n)+"="+bitset.Text(values[i]))
		}
	}
	checkAnswer(t, last, bitset.Text(values[0]))
	checkFinal(t, last, final...)
	checkUsed(t, last, used...)
}

// checkLeast checks that the answer and the final values of a state are those of the least solution.
func checkLeast(t *testing.T, st api.State, least []api.Set) {
	t.Helper()
	checkAnswer(t, st, bitset.Text(least[st.Cone[0]]))
	for _, e := range solver.Final(st) {
		if !bitset.Equal(e.Value, least[e.Node]) {
			t.Errorf("the final value of %d in %q is not %q", e.Node, describe(st), bitset.Text(least[e.Node]))
		}
	}
}

// P15.1 to P15.3, P0.7: generated systems, with known values of the least solution and with others.
func TestGeneratedSystems(t *testing.T) {
	r := rand.New(rand.NewPCG(15, 3))
	for i := range 600 {
		width, size := r.IntN(9), 1+r.IntN(12)
		if i%6 == 0 {
			width, size = 60+r.IntN(10), 1+r.IntN(5)
		}
		s := someSystem(r, width, size)
		least := leastOf(t, s)
		for range 3 {
			root, k := r.IntN(size), leastKnown(r, least)
			states := checkRun(t, r, s, k, root)
			checkSolved(t, s, k, states)
			checkLeast(t, states[len(states)-1], least)
			k = someKnown(r, s)
			checkSolved(t, s, k, checkRun(t, r, s, k, root))
		}
	}
}

// numberNear returns a number around those from 0 to size.
func numberNear(r *rand.Rand, size int) int { return r.IntN(size+3) - 1 }

// withChanges returns a list in which something is different, mostly.
func withChanges[T any](r *rand.Rand, list []T, some func() T) []T {
	list = slices.Clone(list)
	switch r.IntN(4) {
	case 0:
		return append(list, some())
	case 1:
		return list[:r.IntN(len(list)+1)]
	case 2:
		r.Shuffle(len(list), func(i, j int) { list[i], list[j] = list[j], list[i] })
	default:
		if len(list) > 0 {
			list[r.IntN(len(list))] = some()
		}
	}
	return list
}

// changed returns a state in which something is different, mostly.
func changed(r *rand.Rand, s api.System, st api.State) api.State {
	switch r.IntN(9) {
	case 0:
		st.Phase = numberNear(r, 3)
	case 1:
		st.Cone = withChanges(r, st.Cone, func() int { return numberNear(r, len(s.Deps)) })
	case 2:
		st.Leaf = withChanges(r, st.Leaf, func() bool { return r.IntN(2) == 0 })
	case 3:
		st.At = numberNear(r, len(st.Cone))
	case 4:
		st.Edge = numberNear(r, 3)
	case 5:
		st.Values = withChanges(r, st.Values, func() api.Set { return someSet(r, max(0, s.Width-r.IntN(2)), 2) })
	case 6:
		st.Queue = withChanges(r, st.Queue, func() int { return numberNear(r, len(st.Cone)) })
	case 7:
		st.Steps = []int{-1, 0, 1, api.MaxCounter - 1, api.MaxCounter, api.MaxCounter + 1, math.MaxInt, math.MinInt}[r.IntN(8)]
	default:
		if n := len(st.Cone); len(st.Leaf) == n && len(st.Values) == n {
			st = copiedState(st)
			r.Shuffle(n, func(i, j int) {
				st.Cone[i], st.Cone[j], st.Leaf[i], st.Leaf[j] = st.Cone[j], st.Cone[i], st.Leaf[j], st.Leaf[i]
			})
		}
	}
	return st
}

// P15.1, P15.2: generated states, valid and not, that nothing need lead to.
func TestGeneratedStates(t *testing.T) {
	r := rand.New(rand.NewPCG(15, 4))
	count := map[bool]int{}
	phases := map[int]int{}
	for range 1500 {
		s := someSystem(r, r.IntN(5), 1+r.IntN(6))
		k := someKnown(r, s)
		states := checkRun(t, r, s, k, r.IntN(len(s.Deps)))
		for range 20 {
			st := changed(r, s, states[r.IntN(len(states))])
			if r.IntN(2) == 0 {
				st = changed(r, s, st)
			}
			some := k
			if r.IntN(8) == 0 {
				some = withChanges(r, k, func() api.Known { return api.Known{Node: numberNear(r, len(s.Deps)), Value: someSet(r, s.Width, 2)} })
			}
			valid := checkState(t, s, some, st)
			count[valid]++
			if !valid {
				continue
			}
			phases[st.Phase]++
			checkRest(t, s, some, st)
		}
	}
	if count[true] < 8000 || count[false] < 8000 || phases[1] < 2000 || phases[2] < 2000 || phases[3] < 200 {
		t.Errorf("the states checked are %v, and in these phases %v", count, phases)
	}
}

// checkRest compares all that is left to do after a valid state with the definition.
func checkRest(t *testing.T, s api.System, k []api.Known, st api.State) {
	t.Helper()
	want, sum, cost := st, 0, 0
	for want.Phase != api.PhaseDone {
		want, cost = stepped(s, k, want)
		sum += cost
	}
	got, cost, err := solver.Run(s, k, st, math.MaxInt)
	if describe(got) != describe(want) || cost != sum || err != api.OK || !solver.Valid(s, k, got) {
		t.Errorf("Run of %q of %v with %v is %q, %d, %v, want %q, %d", describe(st), s, k, describe(got), cost, err, describe(want), sum)
	}
}

// generate returns the text of a program that is valid unless it has too many nodes.
func generate(r *rand.Rand) string {
	pick := func(list ...string) string { return list[r.IntN(len(list))] }
	variable := func() string { return pick("x", "y", "z", "m", "v"+strconv.Itoa(r.IntN(9))) }
	funcs := []string{"m", "f", "g"}[:1+r.IntN(3)]
	text := ""
	for _, f := range funcs {
		text += "func " + f + "\n"
		blocks := []string{"b0", "b1", "x", "exit", "m"}[:1+r.IntN(5)]
		for _, b := range blocks {
			text += "block " + b + "\n"
			for range r.IntN(1 + r.IntN(12)) {
				text += pick(variable()+" =", variable()+" = "+variable(), variable()+" = "+variable()+" "+variable(), "use "+variable(), "call "+pick(funcs...),
					"source "+variable(), "sink "+variable(), "sanitize "+variable()) + "\n"
			}
			text += pick("return", "goto "+pick(blocks...), "branch "+variable()+" "+pick(blocks...)+" "+pick(blocks...)) + "\n"
		}
		text += "end\n"
	}
	return text
}

// P15.1 to P15.3, P0.7: all analyses of generated programs, where the final values of one node are known for the next one.
func TestGeneratedPrograms(t *testing.T) {
	r := rand.New(rand.NewPCG(15, 5))
	count := 0
	for range 60 {
		text := generate(r)
		p, _, _, err := syntax.Parse(text)
		if err != api.OK {
			t.Fatalf("Parse(%q) is %v", text, err)
		}
		if _, err := validate.Check(p); err != api.OK {
			continue
		}
		for kind := api.KindReach; kind <= api.KindUninit; kind++ {
			s := systemOf(t, text, kind)
			least := leastOf(t, s)
			count++
			var k []api.Known
			for range 3 {
				states := checkRun(t, r, s, k, r.IntN(len(s.Deps)))
				last := states[len(states)-1]
				checkSolved(t, s, k, states)
				checkLeast(t, last, least)
				k = append(k, solver.Final(last)...)
				slices.SortFunc(k, func(a, b api.Known) int { return a.Node - b.Node })
			}
		}
	}
	if count < 150 {
		t.Errorf("only %d systems are checked", count)
	}
}

// checkLargest checks the last state of a system with each of some roots.
func checkLargest(t *testing.T, s api.System, roots ...int) {
	t.Helper()
	least := leastOf(t, s)
	for _, root := range roots {
		st, cost, err := solver.Run(s, nil, solver.Start(root), math.MaxInt)
		list, demand, _ := cone.Of(s, root, nil)
		most := demand + len(list)*(s.Width+1)
		if err != api.OK || st.Phase != api.PhaseDone || st.Steps > most || cost < st.Steps || cost > 8*st.Steps || !slices.Equal(st.Cone, list) {
			t.Errorf("Run from %d leads to %d steps, %d, %v", root, st.Steps, cost, err)
		}
		checkLeast(t, st, least)
		if !solver.Valid(s, nil, st) || len(solver.Final(st)) != len(list) {
			t.Errorf("the last state from %d is not valid", root)
		}
	}
}

// P15.1 to P15.3: the limits of unknowns, dependencies and width.
func TestLimits(t *testing.T) {
	r := rand.New(rand.NewPCG(15, 6))
	all, line := make([]int, api.MaxNodes), make([][]int, api.MaxNodes)
	for n := range all {
		all[n], line[n] = n, []int{(n + 1) % api.MaxNodes}
	}
	dense := slices.Repeat([][]int{all[:32]}, 32)
	wide := append(slices.Repeat([][]int{all}, 4), make([][]int, api.MaxNodes-4)...)
	for _, deps := range [][][]int{dense, wide, line} {
		s := plain(t, api.MaxWidth, deps...)
		for n := range deps {
			s.Boundary[n], s.Transfers[n] = someSet(r, api.MaxWidth, 100), someFunction(r, api.MaxWidth)
		}
		checkLargest(t, s, 0, len(deps)-1, r.IntN(len(deps)))
		last := solver.Start(len(deps) - 1)
		last.Cone, last.Leaf = slices.Clone(all[:len(deps)]), make([]bool, len(deps))
		if !solver.Valid(s, nil, last) || solver.Valid(s, nil, solver.Start(len(deps))) {
			t.Errorf("the state %q is not valid, or one more unknown is", describe(last))
		}
	}
	for width := range api.MaxWidth + 1 {
		s := plain(t, width, nil, []int{0, 1})
		s.Boundary[0], _ = bitset.Full(width)
		checkLargest(t, s, 0, 1)
	}
	for _, s := range []api.System{plain(t, 1, append(slices.Clone(dense), []int{0})...), plain(t, 1, make([][]int, api.MaxNodes+1)...)} {
		checkInvalid(t, "one more", s, nil, solver.Start(0))
	}
}

// P15.2: nearly as many steps as there can be: one bit after the other goes around a ring of all unknowns.
func TestManySteps(t *testing.T) {
	ring := make([][]int, api.MaxNodes)
	for n := range ring {
		ring[n] = []int{(n + 1) % api.MaxNodes}
	}
	s := plain(t, api.MaxWidth, ring...)
	s.Boundary[0] = setOf(t, "0/256")
	// Four unknowns next to each other shift all bits by one, 64 bits each.
	for part := range 4 {
		var copies []int
		for b := 64 * part; b < min(64*part+64, 255); b++ {
			copies = append(copies, b, b+1)
		}
		s.Transfers[part] = function(t, "/256", "/256", copies...)
	}
	st, cost, err := solver.Run(s, nil, solver.Start(0), api.MaxGrant)
	most := 256 + 256 + 256*257
	if err != api.OK || st.Phase != api.PhaseDone || st.Steps > most || st.Steps < most-1000 || cost != 2*st.Steps-512 {
		t.Errorf("Run leads to %d steps, %d, %v", st.Steps, cost, err)
	}
	for i, v := range st.Values {
		if bitset.Count(v) != 256 {
			t.Errorf("the value %d is %q", i, bitset.Text(v))
		}
	}
}

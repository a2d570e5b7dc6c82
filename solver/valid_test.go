package solver_test

import (
	"math"
	"math/rand/v2"
	"reflect"
	"slices"
	"testing"

	"flowquery/api"
	"flowquery/solver"
)

// copiedState returns a state that is equal and shares no memory.
func copiedState(st api.State) api.State {
	st.Cone, st.Leaf, st.Queue, st.Values = slices.Clone(st.Cone), slices.Clone(st.Leaf), slices.Clone(st.Queue), slices.Clone(st.Values)
	for i, v := range st.Values {
		st.Values[i] = copiedSet(v)
	}
	return st
}

func copiedSet(s api.Set) api.Set { return api.Set{Width: s.Width, Words: slices.Clone(s.Words)} }

// changes are changes of a state, with whether it is valid then.
type changes []struct {
	what   string
	change func(st *api.State)
	valid  bool
}

// checkChanges checks each of the changes of a state that is valid.
func checkChanges(t *testing.T, s api.System, k []api.Known, st api.State, list changes) {
	t.Helper()
	if !solver.Valid(s, k, st) {
		t.Fatalf("the state %q is not valid", describe(st))
	}
	for _, c := range list {
		changed := copiedState(st)
		c.change(&changed)
		if !c.valid {
			checkInvalid(t, c.what, s, k, changed)
			continue
		}
		if _, _, err := solver.Run(s, k, changed, math.MaxInt); err != api.OK || !solver.Valid(s, k, changed) {
			t.Errorf("%s: the state %q is not valid, and Run is %v", c.what, describe(changed), err)
		}
	}
}

// inAllPhases returns changes of a state of any phase, for a cone of three unknowns in a system of four.
func inAllPhases() changes {
	list := changes{
		{"no cone", func(st *api.State) { st.Cone, st.Leaf = nil, nil }, false},
		{"nothing", func(st *api.State) { *st = api.State{} }, false},
		{"only a phase", func(st *api.State) { *st = api.State{Phase: st.Phase} }, false},
		{"a cone without marks", func(st *api.State) { st.Leaf = nil }, false},
		{"a mark too few", func(st *api.State) { st.Leaf = st.Leaf[:len(st.Leaf)-1] }, false},
		{"a mark too many", func(st *api.State) { st.Leaf = append(st.Leaf, false) }, false},
		{"marks without a cone", func(st *api.State) { st.Cone = nil }, false},
		{"a cone that is too short", func(st *api.State) { st.Cone = st.Cone[:len(st.Cone)-1] }, false},
		{"an unknown twice", func(st *api.State) { st.Cone[2] = st.Cone[0] }, false},
		{"an unknown twice in a row", func(st *api.State) { st.Cone[1] = st.Cone[0] }, false},
		{"a long cone", func(st *api.State) {
			st.Cone, st.Leaf = slices.Repeat(st.Cone, 1<<16), slices.Repeat(st.Leaf, 1<<16)
		}, false},
	}
	for _, n := range []int{-1, 4, 5, math.MaxInt, math.MinInt} {
		for place := range 3 {
			list = append(list, changes{{"no unknown", func(st *api.State) { st.Cone[place] = n }, false}}...)
		}
	}
	for _, phase := range []int{0, -1, 4, 5, math.MaxInt, math.MinInt, 1 + 1<<32} {
		list = append(list, changes{{"no phase", func(st *api.State) { st.Phase = phase }, false}}...)
	}
	for _, steps := range []int{0, 1, 77, api.MaxCounter - 1, api.MaxCounter} {
		list = append(list, changes{{"other steps", func(st *api.State) { st.Steps = steps }, true}}...)
	}
	for _, steps := range []int{-1, api.MaxCounter + 1, math.MaxInt, math.MinInt} {
		list = append(list, changes{{"no counter", func(st *api.State) { st.Steps = steps }, false}}...)
	}
	return list
}

// places returns the changes that set At and Edge to these numbers.
func places(at, edge []int, valid func(at, edge int) bool) changes {
	var list changes
	for _, a := range at {
		for _, e := range edge {
			list = append(list, changes{{"another place", func(st *api.State) { st.At, st.Edge = a, e }, valid(a, e)}}...)
		}
	}
	return list
}

// P15.1: states of PhaseDemand.
func TestValidDemand(t *testing.T) {
	// 1 is known and would lead to 3, which nothing else leads to.
	s := plain(t, 1, []int{1, 2}, []int{0, 3}, []int{0, 1}, nil)
	k := []api.Known{knownOf(t, 1, "0/1")}
	st, _, err := solver.Run(s, k, solver.Start(0), 4)
	if want := "demand [0 1* 2] 2,0 [] [] 4"; err != api.OK || describe(st) != want {
		t.Fatalf("Run is %q, %v, want %q", describe(st), err, want)
	}
	checkChanges(t, s, k, st, inAllPhases())
	numbers := []int{-1, 0, 1, 2, 3, 4, math.MaxInt, math.MinInt}
	// Before At is 2, Leaf[1] would not hold yet.
	checkChanges(t, s, k, st, places(numbers, numbers, func(at, edge int) bool { return at == 2 && 0 <= edge && edge <= 2 }))
	checkChanges(t, s, k, st, changes{
		{"a leaf that is not marked", func(st *api.State) { st.Leaf[1] = false }, false},
		{"a mark of an unknown that is not known", func(st *api.State) { st.Leaf[0] = true }, false},
		{"a mark of the unknown that is expanded", func(st *api.State) { st.Leaf[2] = true }, false},
		{"a value", func(st *api.State) { st.Values = []api.Set{setOf(t, "/1")} }, false},
		{"all values", func(st *api.State) { st.Values = slices.Repeat([]api.Set{setOf(t, "/1")}, 3) }, false},
		{"a queue", func(st *api.State) { st.Queue = []int{0} }, false},
		{"the whole queue", func(st *api.State) { st.Queue = []int{2, 1, 0} }, false},
		{"empty lists", func(st *api.State) { st.Values, st.Queue = []api.Set{}, []int{} }, true},
		{"the next phase", func(st *api.State) { st.Phase = api.PhaseSolve }, false},
		{"the last phase", func(st *api.State) { st.Phase = api.PhaseDone }, false},
		{"an unknown that is demanded later", func(st *api.State) { st.Cone, st.Leaf = append(st.Cone, 3), append(st.Leaf, false) }, true},
		{"what nothing demands, with a mark", func(st *api.State) { st.Cone, st.Leaf = append(st.Cone, 3), append(st.Leaf, true) }, false},
		{"a dependency that is missing", func(st *api.State) { st.Cone[2] = 3 }, false},
		{"the leaf at another place", func(st *api.State) { st.Cone[1], st.Cone[2] = 2, 1 }, false},
		{"the leaf and its mark at another place", func(st *api.State) {
			st.Cone, st.Leaf = []int{1, 2, 0}, []bool{true, false, false}
		}, true},
	})
}

// P15.1: Edge in PhaseDemand, and what the first elements of Deps demand.
func TestValidEdge(t *testing.T) {
	s := plain(t, 1, []int{1, 2, 3}, nil, []int{0, 1}, []int{3})
	st := solver.Start(0)
	st.Cone, st.Leaf = []int{0, 1, 3}, make([]bool, 3)
	checkChanges(t, s, nil, st, changes{
		{"none", func(st *api.State) {}, true}, {"1", func(st *api.State) { st.Edge = 1 }, true},
		{"1, 2", func(st *api.State) { st.Edge = 2 }, false}, {"1, 2, 3", func(st *api.State) { st.Edge = 3 }, false},
		{"1, 2, with 2", func(st *api.State) { st.Edge, st.Cone[2] = 2, 2 }, true}, {"1, 2, 3, without 3", func(st *api.State) { st.Edge, st.Cone[2] = 3, 2 }, false},
		{"all", func(st *api.State) {
			*st = api.State{Phase: 1, Cone: []int{0, 3, 2, 1}, Leaf: make([]bool, 4), Edge: 3}
		}, true},
		{"one too many", func(st *api.State) {
			*st = api.State{Phase: 1, Cone: []int{0, 3, 2, 1}, Leaf: make([]bool, 4), Edge: 4}
		}, false},
		{"the next one", func(st *api.State) { st.At = 1 }, false},
		{"the next one, with all", func(st *api.State) { *st = api.State{Phase: 1, Cone: []int{0, 3, 2, 1}, Leaf: make([]bool, 4), At: 1} }, true},
		{"itself", func(st *api.State) { st.Cone, st.Leaf, st.Edge = []int{3}, []bool{false}, 1 }, true},
	})
	// An unknown whose value is known is not expanded: Edge is 0, and no mark holds before its step.
	for _, k := range [][]api.Known{{knownOf(t, 0, "/1")}, {knownOf(t, 0, "/1"), knownOf(t, 1, "/1"), knownOf(t, 3, "/1")}} {
		checkChanges(t, s, k, st, changes{
			{"none", func(st *api.State) {}, true}, {"1", func(st *api.State) { st.Edge = 1 }, false}, {"a negative number", func(st *api.State) { st.Edge = -1 }, false},
			{"the mark", func(st *api.State) { st.Leaf[0] = true }, false}, {"a mark after it", func(st *api.State) { st.Leaf[1] = true }, false},
			{"the next one", func(st *api.State) { st.At, st.Leaf[0] = 1, true }, true}, {"the next one, without a mark", func(st *api.State) { st.At = 1 }, false},
		})
	}
}

// P15.1: states of PhaseSolve and PhaseDone.
func TestValidSolving(t *testing.T) {
	s := plain(t, 1, []int{1, 2}, []int{0, 3}, []int{0, 1}, nil)
	s.Boundary[2] = setOf(t, "0/1")
	k := []api.Known{knownOf(t, 1, "0/1")}
	solving, _, err := solver.Run(s, k, solver.Start(0), 7)
	if want := "solve [0 1* 2] 0,0 [/1 0/1 0/1] [2 1 0] 7"; err != api.OK || describe(solving) != want {
		t.Fatalf("Run is %q, %v, want %q", describe(solving), err, want)
	}
	done, _, err := solver.Run(s, k, solving, 100)
	if want := "done [0 1* 2] 0,0 [0/1 0/1 0/1] [] 10"; err != api.OK || describe(done) != want {
		t.Fatalf("Run is %q, %v, want %q", describe(done), err, want)
	}
	numbers := []int{-1, 0, 1, 2, 3, math.MaxInt, math.MinInt}
	for _, st := range []api.State{solving, done} {
		checkChanges(t, s, k, st, inAllPhases())
		checkChanges(t, s, k, st, places(numbers, numbers, func(at, edge int) bool { return at == 0 && edge == 0 }))
		checkChanges(t, s, k, st, changes{
			{"a leaf that is not marked", func(st *api.State) { st.Leaf[1] = false }, false},
			{"a mark of an unknown that is not known", func(st *api.State) { st.Leaf[2] = true }, false},
			{"a mark of another one", func(st *api.State) { st.Leaf[1], st.Leaf[0] = false, true }, false},
			{"what nothing demands", func(st *api.State) {
				st.Cone, st.Leaf, st.Values = append(st.Cone, 3), append(st.Leaf, false), append(st.Values, setOf(t, "0/1"))
			}, true},
			{"what nothing demands, without a value", func(st *api.State) { st.Cone, st.Leaf = append(st.Cone, 3), append(st.Leaf, false) }, false},
			{"what nothing demands, as a leaf", func(st *api.State) {
				st.Cone, st.Leaf, st.Values = append(st.Cone, 3), append(st.Leaf, true), append(st.Values, setOf(t, "0/1"))
			}, false},
			{"a dependency that is missing", func(st *api.State) { st.Cone[2] = 3 }, false},
			{"only the leaf", func(st *api.State) {
				st.Cone, st.Leaf, st.Values, st.Queue = []int{1}, []bool{true}, st.Values[:1], st.Queue[:0]
				if st.Phase == api.PhaseSolve {
					st.Queue = []int{0}
				}
			}, true},
			{"another order", func(st *api.State) { st.Cone, st.Leaf = []int{1, 2, 0}, []bool{true, false, false} }, true},
			{"no values", func(st *api.State) { st.Values = nil }, false},
			{"a value too few", func(st *api.State) { st.Values = st.Values[:2] }, false},
			{"a value too many", func(st *api.State) { st.Values = append(st.Values, setOf(t, "/1")) }, false},
			{"other values", func(st *api.State) {
				st.Values[0], st.Values[1], st.Values[2] = setOf(t, "0/1"), setOf(t, "/1"), setOf(t, "/1")
			}, true},
			{"the first phase", func(st *api.State) { st.Phase = api.PhaseDemand }, false},
			{"the other phase", func(st *api.State) { st.Phase = api.PhaseSolve + api.PhaseDone - st.Phase }, false},
			{"no step", func(st *api.State) { st.Phase, st.Values, st.Queue = api.PhaseDemand, nil, nil }, false},
		})
		for _, v := range []api.Set{{}, {Width: 1}, {Width: -1}, {Width: 1, Words: []uint64{2}}, {Width: 1, Words: []uint64{0, 0}}, setOf(t, "/0"), setOf(t, "1/2"), {Width: 257, Words: make([]uint64, 5)}} {
			for place := range 3 {
				checkChanges(t, s, k, st, changes{{"a value", func(st *api.State) { st.Values[place] = v }, false}})
			}
		}
	}
}

// P15.1: the queue of each phase.
func TestValidQueue(t *testing.T) {
	s := plain(t, 1, []int{1, 2}, []int{0}, []int{0, 1}, nil)
	st, _, err := solver.Run(s, nil, solver.Start(0), 100)
	if err != api.OK || st.Phase != api.PhaseDone || len(st.Cone) != 3 {
		t.Fatalf("Run is %q, %v", describe(st), err)
	}
	for _, queue := range lists([]int{-1, 0, 1, 2, 3, math.MaxInt, math.MinInt}, 3) {
		different := len(queue) > 0
		for i, n := range queue {
			different = different && 0 <= n && n <= 2 && !slices.Contains(queue[:i], n)
		}
		st.Queue = queue
		for phase, want := range map[int]bool{api.PhaseDemand: false, api.PhaseSolve: different, api.PhaseDone: len(queue) == 0} {
			st.Phase = phase
			if solver.Valid(s, nil, st) != want {
				t.Errorf("Valid of %q is not %v", describe(st), want)
			}
		}
	}
	st.Phase = api.PhaseSolve
	for _, queue := range [][]int{{0, 1, 2, 0}, {0, 1, 2, 3}, make([]int, 1<<19)} {
		st.Queue = queue
		checkInvalid(t, "a long queue", s, nil, st)
	}
}

// lists returns all lists of some numbers up to a length.
func lists(numbers []int, most int) [][]int {
	all := [][]int{nil}
	for last := all; most > 0; most-- {
		var longer [][]int
		for _, list := range last {
			for _, n := range numbers {
				longer = append(longer, append(slices.Clone(list), n))
			}
		}
		all, last = append(all, longer...), longer
	}
	return all
}

// P15.1, P15.2, R4: systems that are not valid.
func TestInvalidSystem(t *testing.T) {
	bad := api.Set{Width: 2, Words: []uint64{4}}
	for _, change := range []func(s *api.System){
		func(s *api.System) { *s = api.System{} }, func(s *api.System) { *s = api.System{Width: 2} }, func(s *api.System) { s.Width = 3 }, func(s *api.System) { s.Width = -1 }, func(s *api.System) { s.Width = 257 },
		func(s *api.System) { s.Deps = s.Deps[:1] }, func(s *api.System) { s.Deps = append(s.Deps, nil) }, func(s *api.System) { s.Transfers = s.Transfers[:1] }, func(s *api.System) { s.Boundary = nil },
		func(s *api.System) { s.Deps[0] = []int{1, 0} }, func(s *api.System) { s.Deps[0] = []int{1, 1} }, func(s *api.System) { s.Deps[1] = []int{2} }, func(s *api.System) { s.Deps[1] = []int{-1} },
		func(s *api.System) { s.Deps[1] = []int{math.MaxInt} }, func(s *api.System) { s.Deps[1] = []int{math.MinInt} }, func(s *api.System) { s.Boundary[1] = bad }, func(s *api.System) { s.Boundary[0] = api.Set{} },
		func(s *api.System) { s.Boundary[0] = setOf(t, "/3") }, func(s *api.System) { s.Transfers[1] = api.Transfer{} }, func(s *api.System) { s.Transfers[0].Gen = bad }, func(s *api.System) { s.Transfers[1].Kill = bad },
		func(s *api.System) { s.Transfers[0].Copies = []api.Copy{{To: 2}} }, func(s *api.System) { s.Transfers[0].Copies = []api.Copy{{From: 1}, {From: 0}} },
	} {
		s := plain(t, 2, []int{1}, []int{0})
		// The states are valid for the system without the change, and do not even need what changes.
		states := []api.State{solver.Start(0), solver.Start(1)}
		k := []api.Known{knownOf(t, 0, "/2")}
		solving, _, _ := solver.Run(s, k, solver.Start(0), 1)
		done, _, _ := solver.Run(s, k, solver.Start(0), 2)
		change(&s)
		for _, st := range append(states, api.State{}) {
			checkInvalid(t, "the system", s, nil, st)
		}
		for _, st := range append(states, solving, done) {
			checkInvalid(t, "the system", s, k, st)
		}
	}
}

// R1: arguments of which nothing is permitted.
func TestMalformed(t *testing.T) {
	r := rand.New(rand.NewPCG(15, 1))
	number := func() int {
		return []int{0, 1, 2, 3, -1, -2, 256, api.MaxCounter, math.MaxInt, math.MinInt, math.MaxInt - 1}[r.IntN(11)]
	}
	numbers := func() []int {
		var list []int
		for range r.IntN(4) {
			list = append(list, number())
		}
		return list
	}
	set := func() api.Set { return api.Set{Width: number(), Words: make([]uint64, r.IntN(3))} }
	s := plain(t, 1, []int{1}, []int{0, 1})
	for range 20000 {
		st := api.State{Phase: number(), Cone: numbers(), Leaf: make([]bool, r.IntN(4)), At: number(), Edge: number(), Queue: numbers(), Steps: number()}
		for range r.IntN(4) {
			st.Values = append(st.Values, set())
		}
		var k []api.Known
		for range r.IntN(3) {
			k = append(k, api.Known{Node: number(), Value: set()})
		}
		before := copiedState(st)
		valid := solver.Valid(s, k, st)
		_, _, errStep := solver.Step(s, k, st)
		_, _, errRun := solver.Run(s, k, st, number())
		if valid != isValid(s, k, st) || !valid && (errStep != api.ErrInvalid || errRun != api.ErrInvalid) {
			t.Errorf("Valid of %q is %v, Step is %v, and Run is %v", describe(st), valid, errStep, errRun)
		}
		solver.Answer(st)
		solver.Final(st)
		solver.Used(st)
		if !reflect.DeepEqual(before, st) {
			t.Errorf("the state %v is %v now", before, st)
		}
	}
}

// R1: lists that are much longer than there are unknowns.
func TestLongLists(t *testing.T) {
	s := plain(t, 1, nil)
	size := 1 << 19
	long := slices.Repeat([]api.Known{knownOf(t, 0, "0/1")}, size)
	checkInvalid(t, "many known values", s, long, solver.Start(0))
	st := api.State{Phase: api.PhaseDone, Cone: make([]int, size), Leaf: make([]bool, size), Values: make([]api.Set, size)}
	for i := range size {
		st.Cone[i], st.Leaf[i], st.Values[i].Width = size-i/4, i%2 == 0, i
	}
	checkInvalid(t, "a long cone", s, nil, st)
	checkAnswer(t, st, "/0")
	final, used := solver.Final(st), solver.Used(st)
	if len(final) != size/2 || len(used) != size/2 {
		t.Fatalf("there are %d final values and %d used unknowns", len(final), len(used))
	}
	for i := range size / 2 {
		// Each unknown is there four times: twice as a leaf, and twice not, in the order of Cone.
		want := size - 4 - i/2*4 + 1 + i%2*2
		if n := size*3/4 + 1 + i/2; used[i] != n || final[i].Node != n || final[i].Value.Width != want {
			t.Fatalf("the final value %d is %v, and the used unknown %d, want %d, with the width %d", i, final[i], used[i], n, want)
		}
	}
}

// R3: a nil slice and an empty one are equal.
func TestEmptyLists(t *testing.T) {
	for _, words := range [][]uint64{nil, {}} {
		set := api.Set{Words: words}
		for _, list := range [][]int{nil, {}} {
			s := api.System{Deps: [][]int{list}, Boundary: []api.Set{set}, Transfers: []api.Transfer{{Gen: set, Kill: set}}}
			for _, k := range [][]api.Known{nil, {}, {{Value: set}}} {
				for _, values := range [][]api.Set{nil, {}} {
					st := api.State{Phase: api.PhaseDemand, Cone: []int{0}, Leaf: []bool{false}, Values: values, Queue: list}
					st, cost, err := solver.Run(s, k, st, 3)
					if err != api.OK || cost != 2 || st.Phase != api.PhaseDone || len(st.Queue) != 0 {
						t.Errorf("Run is %q, %d, %v", describe(st), cost, err)
					}
					checkAnswer(t, st, "/0")
					st.Queue = list
					checkFinished(t, s, k, st)
				}
			}
		}
	}
}

// marks collects the places of elements of slices, and those that are there more than once.
type marks struct {
	seen   map[any]bool
	shared int
}

func addAll[T any](m *marks, list []T) {
	list = list[:cap(list)]
	for i := range list {
		if m.seen[&list[i]] {
			m.shared++
		}
		m.seen[&list[i]] = true
	}
}

func (m *marks) addSets(list []api.Set) {
	addAll(m, list)
	for _, s := range list {
		addAll(m, s.Words)
	}
}

func (m *marks) addKnown(k []api.Known) {
	addAll(m, k)
	for _, e := range k {
		addAll(m, e.Value.Words)
	}
}

func (m *marks) addState(st api.State) {
	addAll(m, st.Cone)
	addAll(m, st.Leaf)
	m.addSets(st.Values)
	addAll(m, st.Queue)
}

func (m *marks) addSystem(s api.System) {
	addAll(m, s.Deps)
	for _, list := range s.Deps {
		addAll(m, list)
	}
	addAll(m, s.Transfers)
	for _, f := range s.Transfers {
		addAll(m, f.Gen.Words)
		addAll(m, f.Kill.Words)
		addAll(m, f.Copies)
	}
	m.addSets(s.Boundary)
}

// copiedSystem returns a system that is equal and shares no memory.
func copiedSystem(s api.System) api.System {
	c := api.System{Width: s.Width}
	for n, f := range s.Transfers {
		c.Deps = append(c.Deps, slices.Clone(s.Deps[n]))
		c.Boundary = append(c.Boundary, copiedSet(s.Boundary[n]))
		c.Transfers = append(c.Transfers, api.Transfer{Gen: copiedSet(f.Gen), Kill: copiedSet(f.Kill), Copies: slices.Clone(f.Copies)})
	}
	return c
}

// copiedKnown returns known values that are equal and share no memory.
func copiedKnown(k []api.Known) []api.Known {
	c := slices.Clone(k)
	for i, e := range k {
		c[i].Value = copiedSet(e.Value)
	}
	return c
}

// R2: no function modifies its arguments, and no results share memory with each other, with an argument or within themselves.
func TestMemory(t *testing.T) {
	r := rand.New(rand.NewPCG(15, 2))
	found := marks{seen: map[any]bool{}}
	for range 60 {
		s := someSystem(r, 1+r.IntN(70), 1+r.IntN(8))
		k := someKnown(r, s)
		found.addSystem(s)
		found.addKnown(k)
		systemBefore, knownBefore := copiedSystem(s), copiedKnown(k)
		st := solver.Start(r.IntN(len(s.Deps)))
		for st.Phase != api.PhaseDone {
			found.addState(st)
			before := copiedState(st)
			for _, steps := range []int{0, 1, 2, 1000} {
				last, _, _ := solver.Run(s, k, st, steps)
				found.addState(last)
				last, _, _ = solver.Step(s, k, st)
				found.addState(last)
			}
			next, _, err := solver.Step(s, k, st)
			if err != api.OK || !reflect.DeepEqual(copiedState(st), before) {
				t.Fatalf("Step of %q is %v, and the state is %q now", describe(before), err, describe(st))
			}
			st = next
		}
		found.addState(st)
		before := copiedState(st)
		for range 2 {
			last, _, _ := solver.Run(s, k, st, 1)
			found.addState(last)
			answer, _ := solver.Answer(st)
			addAll(&found, answer.Words)
			found.addKnown(solver.Final(st))
			addAll(&found, solver.Used(st))
		}
		if !reflect.DeepEqual(copiedState(st), before) || !reflect.DeepEqual(copiedSystem(s), systemBefore) || !reflect.DeepEqual(copiedKnown(k), knownBefore) {
			t.Errorf("the state %q, the system %v or the known values %v were modified", describe(before), systemBefore, knownBefore)
		}
	}
	if found.shared > 0 || len(found.seen) == 0 {
		t.Errorf("%d elements of slices are shared", found.shared)
	}
}

package solver_test

import (
	"math"
	"slices"
	"strconv"
	"strings"
	"testing"

	"flowquery/api"
	"flowquery/bitset"
	"flowquery/equations"
	"flowquery/solver"
	"flowquery/syntax"
	"flowquery/transfer"
)

// setOf returns the set of a text.
func setOf(t *testing.T, text string) api.Set {
	t.Helper()
	s, err := bitset.Parse(text)
	if err != api.OK {
		t.Fatalf("Parse(%q) is %v", text, err)
	}
	return s
}

// function returns the function that generates gen, kills kill and makes the copies from, to, from, to and so on.
func function(t *testing.T, gen, kill string, copies ...int) api.Transfer {
	t.Helper()
	f := api.Transfer{Gen: setOf(t, gen), Kill: setOf(t, kill)}
	for pair := range slices.Chunk(copies, 2) {
		f.Copies = append(f.Copies, api.Copy{From: pair[0], To: pair[1]})
	}
	return f
}

// plain returns a system of these dependencies whose functions are identities and whose boundaries are empty.
func plain(t *testing.T, width int, deps ...[]int) api.System {
	t.Helper()
	s := api.System{Width: width, Deps: deps}
	for range deps {
		same, err := transfer.Identity(width)
		if err != api.OK {
			t.Fatalf("Identity(%d) is %v", width, err)
		}
		s.Transfers = append(s.Transfers, same)
		s.Boundary = append(s.Boundary, setOf(t, "/"+strconv.Itoa(width)))
	}
	return s
}

// knownOf returns the value of one unknown.
func knownOf(t *testing.T, n int, value string) api.Known {
	t.Helper()
	return api.Known{Node: n, Value: setOf(t, value)}
}

// describe returns a state as a line: its phase, the cone with a star after each leaf, At and Edge, the values, the queue,
// and Steps.
func describe(st api.State) string {
	phase, known := map[int]string{api.PhaseDemand: "demand", api.PhaseSolve: "solve", api.PhaseDone: "done"}[st.Phase]
	if !known {
		phase = "phase " + strconv.Itoa(st.Phase)
	}
	var cone, values, queue []string
	for i, n := range st.Cone {
		mark := ""
		if i >= len(st.Leaf) {
			mark = "?"
		} else if st.Leaf[i] {
			mark = "*"
		}
		cone = append(cone, strconv.Itoa(n)+mark)
	}
	if len(st.Leaf) > len(st.Cone) {
		cone = append(cone, "too many marks")
	}
	for _, v := range st.Values {
		values = append(values, bitset.Text(v))
	}
	for _, i := range st.Queue {
		queue = append(queue, strconv.Itoa(i))
	}
	list := func(parts []string) string { return "[" + strings.Join(parts, " ") + "]" }
	return phase + " " + list(cone) + " " + strconv.Itoa(st.At) + "," + strconv.Itoa(st.Edge) + " " + list(values) + " " + list(queue) + " " + strconv.Itoa(st.Steps)
}

// checkTrace compares each state from the start to the last one with written-out ones, which begin with their costs.
func checkTrace(t *testing.T, s api.System, k []api.Known, root int, want ...string) api.State {
	t.Helper()
	st, cost := solver.Start(root), 0
	for i, line := range want {
		if got := strconv.Itoa(cost) + " " + describe(st); got != line {
			t.Errorf("after %d steps is %q, want %q", i, got, line)
		}
		if !solver.Valid(s, k, st) {
			t.Errorf("after %d steps, %q is not valid", i, describe(st))
		}
		if i == len(want)-1 {
			break
		}
		var err api.Errno
		if st, cost, err = solver.Step(s, k, st); err != api.OK {
			t.Fatalf("after %d steps, Step is %v", i, err)
		}
	}
	checkFinished(t, s, k, st)
	return st
}

// checkFinished checks that there is no step after the last state.
func checkFinished(t *testing.T, s api.System, k []api.Known, st api.State) {
	t.Helper()
	if last, cost, err := solver.Step(s, k, st); describe(last) != describe(api.State{}) || cost != 0 || err != api.ErrFinished {
		t.Errorf("Step of %q is %q, %d, %v", describe(st), describe(last), cost, err)
	}
}

// checkAnswer compares the answer of a state with the text of a set, or with none.
func checkAnswer(t *testing.T, st api.State, want string) {
	t.Helper()
	answer, ok := solver.Answer(st)
	if ok != (want != "") || bitset.Text(answer) != want && ok || !ok && (answer.Width != 0 || len(answer.Words) > 0) {
		t.Errorf("the answer of %q is %v, %v, want %q", describe(st), answer, ok, want)
	}
}

// checkFinal compares the final values of a state with written-out ones, such as 2=0,1/3.
func checkFinal(t *testing.T, st api.State, want ...string) {
	t.Helper()
	var got []string
	for _, k := range solver.Final(st) {
		got = append(got, strconv.Itoa(k.Node)+"="+bitset.Text(k.Value))
	}
	if !slices.Equal(got, want) {
		t.Errorf("the final values of %q are %v, want %v", describe(st), got, want)
	}
}

// checkUsed compares the used unknowns of a state with written-out ones.
func checkUsed(t *testing.T, st api.State, want ...int) {
	t.Helper()
	if got := solver.Used(st); !slices.Equal(got, want) {
		t.Errorf("the used unknowns of %q are %v, want %v", describe(st), got, want)
	}
}

// P15.1: the state at the start, for any root.
func TestStart(t *testing.T) {
	for _, root := range []int{0, 1, 255, 256, -1, math.MinInt, math.MaxInt} {
		want := "demand [" + strconv.Itoa(root) + "] 0,0 [] [] 0"
		if got := describe(solver.Start(root)); got != want {
			t.Errorf("Start(%d) is %q", root, got)
		}
	}
	s := plain(t, 1, nil, []int{0, 1})
	for root := -2; root < 5; root++ {
		for _, k := range [][]api.Known{nil, {knownOf(t, 1, "/1")}} {
			if got := solver.Valid(s, k, solver.Start(root)); got != (root == 0 || root == 1) {
				t.Errorf("Valid of Start(%d) is %v", root, got)
			}
		}
	}
}

// P15.2, P15.3: the examples of the chapter.
func TestExamples(t *testing.T) {
	s := plain(t, 2, nil)
	s.Boundary[0] = setOf(t, "1/2")
	st := checkTrace(t, s, nil, 0, "0 demand [0] 0,0 [] [] 0", "1 solve [0] 0,0 [1/2] [0] 1", "1 done [0] 0,0 [1/2] [] 2")
	checkAnswer(t, st, "1/2")
	checkFinal(t, st, "0=1/2")
	checkUsed(t, st)

	// The known value need not be that of the least solution; Deps and Boundary of a known unknown do not count.
	s = plain(t, 2, []int{0, 1}, nil)
	s.Boundary[0], s.Boundary[1] = setOf(t, "1/2"), setOf(t, "1/2")
	known := []api.Known{knownOf(t, 0, "0/2")}
	st = checkTrace(t, s, known, 0, "0 demand [0] 0,0 [] [] 0", "1 solve [0*] 0,0 [0/2] [0] 1", "1 done [0*] 0,0 [0/2] [] 2")
	checkAnswer(t, st, "0/2")
	checkFinal(t, st)
	checkUsed(t, st, 0)
}

// P15.2: the steps of PhaseDemand and of PhaseSolve, of a loop.
func TestLoop(t *testing.T) {
	s := plain(t, 1, []int{1, 2}, []int{0}, nil, []int{0})
	s.Boundary[2] = setOf(t, "0/1")
	st := checkTrace(t, s, nil, 0,
		"0 demand [0] 0,0 [] [] 0", "1 demand [0 1] 0,1 [] [] 1", "1 demand [0 1 2] 0,2 [] [] 2", "1 demand [0 1 2] 1,0 [] [] 3",
		"1 demand [0 1 2] 1,1 [] [] 4", "1 demand [0 1 2] 2,0 [] [] 5", "1 solve [0 1 2] 0,0 [/1 /1 0/1] [2 1 0] 6",
		"2 solve [0 1 2] 0,0 [0/1 /1 0/1] [1 0] 7", "2 solve [0 1 2] 0,0 [0/1 /1 0/1] [0] 8", "2 solve [0 1 2] 0,0 [0/1 0/1 0/1] [1] 9",
		"2 done [0 1 2] 0,0 [0/1 0/1 0/1] [] 10")
	checkAnswer(t, st, "0/1")
	checkFinal(t, st, "0=0/1", "1=0/1", "2=0/1")
	checkUsed(t, st)
}

// P15.2: leaves are not expanded, have their known values, and gain nothing; known unknowns outside of the cone do not count.
func TestLeaves(t *testing.T) {
	line := plain(t, 2, nil, []int{0, 3}, []int{1}, []int{2})
	line.Boundary[1], line.Boundary[2] = setOf(t, "0/2"), setOf(t, "/2")
	line.Transfers[1], line.Transfers[3] = function(t, "/2", "1/2", 1, 0), function(t, "1/2", "/2")
	known := []api.Known{knownOf(t, 0, "0,1/2"), knownOf(t, 1, "1/2")}
	st := checkTrace(t, line, known, 3,
		"0 demand [3] 0,0 [] [] 0", "1 demand [3 2] 0,1 [] [] 1", "1 demand [3 2] 1,0 [] [] 2", "1 demand [3 2 1] 1,1 [] [] 3", "1 demand [3 2 1] 2,0 [] [] 4",
		"1 solve [3 2 1*] 0,0 [/2 /2 1/2] [2 1 0] 5", "2 solve [3 2 1*] 0,0 [/2 0/2 1/2] [1 0] 6", "2 solve [3 2 1*] 0,0 [0/2 0/2 1/2] [0] 7",
		"1 done [3 2 1*] 0,0 [0/2 0/2 1/2] [] 8")
	checkAnswer(t, st, "0/2")
	checkFinal(t, st, "2=0/2", "3=0/2")
	checkUsed(t, st, 1)

	// Leaves in another order than that of their numbers, and one that depends on itself.
	s := plain(t, 1, []int{3, 4}, []int{0, 1, 2}, nil, []int{3}, []int{0})
	known = []api.Known{knownOf(t, 0, "/1"), knownOf(t, 2, "0/1"), knownOf(t, 3, "0/1")}
	st = checkTrace(t, s, known, 1,
		"0 demand [1] 0,0 [] [] 0", "1 demand [1 0] 0,1 [] [] 1", "1 demand [1 0] 0,2 [] [] 2", "1 demand [1 0 2] 0,3 [] [] 3", "1 demand [1 0 2] 1,0 [] [] 4",
		"1 demand [1 0* 2] 2,0 [] [] 5", "1 solve [1 0* 2*] 0,0 [/1 /1 0/1] [2 1 0] 6", "2 solve [1 0* 2*] 0,0 [0/1 /1 0/1] [1 0] 7",
		"2 solve [1 0* 2*] 0,0 [0/1 /1 0/1] [0] 8", "2 done [1 0* 2*] 0,0 [0/1 /1 0/1] [] 9")
	checkUsed(t, st, 0, 2)
	checkFinal(t, st, "1=0/1")
	st = checkTrace(t, s, known, 3, "0 demand [3] 0,0 [] [] 0", "1 solve [3*] 0,0 [0/1] [0] 1", "1 done [3*] 0,0 [0/1] [] 2")
	checkUsed(t, st, 3)
}

// P15.2: what an unknown gains from itself is seen by the dependents after it, but not by those before it; dependents are
// appended to the queue in their order, unless they are in it.
func TestSelf(t *testing.T) {
	s := plain(t, 3, []int{1, 2}, []int{1}, []int{1})
	s.Boundary[1], s.Transfers[1] = setOf(t, "0/3"), function(t, "/3", "/3", 0, 1, 1, 2)
	after := func(st api.State, steps int) string {
		got, cost, err := solver.Run(s, nil, st, steps)
		if err != api.OK {
			t.Errorf("Run of %q is %v", describe(st), err)
		}
		return strconv.Itoa(cost) + " " + describe(got)
	}
	for steps, want := range map[int]string{
		7:  "7 solve [0 1 2] 0,0 [/3 0/3 /3] [2 1 0] 7",
		8:  "9 solve [0 1 2] 0,0 [/3 0/3 /3] [1 0] 8",
		9:  "13 solve [0 1 2] 0,0 [0,1/3 0,1/3 0,1,2/3] [0 1 2] 9",
		10: "14 solve [0 1 2] 0,0 [0,1/3 0,1/3 0,1,2/3] [1 2] 10",
		11: "18 solve [0 1 2] 0,0 [0,1,2/3 0,1,2/3 0,1,2/3] [2 0 1] 11",
		12: "20 solve [0 1 2] 0,0 [0,1,2/3 0,1,2/3 0,1,2/3] [0 1] 12",
		13: "21 solve [0 1 2] 0,0 [0,1,2/3 0,1,2/3 0,1,2/3] [1] 13",
		14: "25 done [0 1 2] 0,0 [0,1,2/3 0,1,2/3 0,1,2/3] [] 14",
		15: "25 done [0 1 2] 0,0 [0,1,2/3 0,1,2/3 0,1,2/3] [] 14",
	} {
		if got := after(solver.Start(0), steps); got != want {
			t.Errorf("after %d steps is %q, want %q", steps, got, want)
		}
	}

	// A state that no start leads to: an index after the one of the step is in the queue, and stays where it is.
	st := api.State{Phase: api.PhaseSolve, Cone: []int{0, 1, 2}, Leaf: make([]bool, 3), Queue: []int{1, 2}, Steps: 40,
		Values: []api.Set{setOf(t, "/3"), setOf(t, "0/3"), setOf(t, "/3")}}
	if got, want := after(st, 1), "4 solve [0 1 2] 0,0 [0,1/3 0,1/3 0,1,2/3] [2 0 1] 41"; got != want {
		t.Errorf("after a step is %q, want %q", got, want)
	}
	// Here the values are a solution already.
	for i := range st.Values {
		st.Values[i] = setOf(t, "0,1,2/3")
	}
	if got, want := after(st, 1), "4 solve [0 1 2] 0,0 [0,1,2/3 0,1,2/3 0,1,2/3] [2] 41"; got != want {
		t.Errorf("after a step is %q, want %q", got, want)
	}
}

// P15.2: the cost of a step is at most MaxCost, however many dependents there are.
func TestCost(t *testing.T) {
	for dependents := range 20 {
		deps := make([][]int, dependents+2)
		for n := range dependents {
			deps[n+1] = []int{0}
			deps[dependents+1] = append(deps[dependents+1], n+1)
		}
		// The root depends on all dependents of 0.
		s := plain(t, 1, deps...)
		if dependents == 0 {
			deps[1] = []int{0}
		}
		demand := len(deps) + equations.Edges(s)
		st, cost, err := solver.Run(s, nil, solver.Start(dependents+1), demand)
		if err != api.OK || cost != demand || st.Phase != api.PhaseSolve || len(st.Queue) != len(deps) {
			t.Fatalf("after the demand is %q, %d, %v", describe(st), cost, err)
		}
		want := min(1+max(1, dependents), 8)
		if st, cost, err = solver.Step(s, nil, st); err != api.OK || cost != want {
			t.Errorf("a step with %d dependents costs %d, %v, want %d", dependents, cost, err, want)
		}
		sum := want
		for st.Phase != api.PhaseDone {
			if st, cost, err = solver.Step(s, nil, st); err != api.OK || cost != 2 && st.Phase != api.PhaseDone || cost != 1 && st.Phase == api.PhaseDone {
				t.Fatalf("a step that leads to %q costs %d, %v", describe(st), cost, err)
			}
			sum += cost
		}
		if _, cost, _ := solver.Run(s, nil, solver.Start(dependents+1), math.MaxInt); cost != demand+sum {
			t.Errorf("all steps with %d dependents cost %d, want %d", dependents, cost, demand+sum)
		}
	}
}

// P15.2: Run performs no step if steps is 0 or the phase is PhaseDone, and otherwise at most so many.
func TestRun(t *testing.T) {
	s := plain(t, 1, []int{1, 2}, []int{0}, nil, []int{0})
	s.Boundary[2] = setOf(t, "0/1")
	st, sum := solver.Start(0), 0
	var states []string
	for {
		states = append(states, strconv.Itoa(sum)+" "+describe(st))
		next, cost, err := solver.Step(s, nil, st)
		if err != api.OK {
			break
		}
		st, sum = next, sum+cost
	}
	if len(states) != 11 || sum != 14 {
		t.Fatalf("there are %d states, and the cost %d", len(states), sum)
	}
	for _, steps := range []int{0, 1, 2, 3, 4, 5, 6, 7, 8, 9, 10, 11, 12, 100, api.MaxGrant, math.MaxInt32, math.MaxInt} {
		got, cost, err := solver.Run(s, nil, solver.Start(0), steps)
		if line := strconv.Itoa(cost) + " " + describe(got); err != api.OK || line != states[min(steps, 10)] {
			t.Errorf("Run of %d steps is %q, %v", steps, line, err)
		}
		if got, cost, err := solver.Run(s, nil, st, steps); err != api.OK || cost != 0 || describe(got) != describe(st) {
			t.Errorf("Run of %d steps after the last one is %q, %d, %v", steps, describe(got), cost, err)
		}
	}
}

// P15.2: Steps grows up to MaxCounter.
func TestSteps(t *testing.T) {
	s := plain(t, 1, []int{0})
	for _, first := range []int{0, 1, 1 << 20, api.MaxCounter - 3, api.MaxCounter - 2, api.MaxCounter - 1, api.MaxCounter} {
		st := solver.Start(0)
		st.Steps = first
		for done := 1; done <= 3; done++ {
			var err api.Errno
			if st, _, err = solver.Step(s, nil, st); err != api.OK || st.Steps != min(first+done, api.MaxCounter) {
				t.Errorf("after %d steps, Steps is %d, %v", done, st.Steps, err)
			}
			again := solver.Start(0)
			again.Steps = first
			if last, _, err := solver.Run(s, nil, again, done); err != api.OK || last.Steps != st.Steps {
				t.Errorf("Run of %d steps leads to %d, %v", done, last.Steps, err)
			}
		}
		checkFinished(t, s, nil, st)
	}
}

// systemOf returns the system of an analysis of the program of a text.
func systemOf(t *testing.T, text string, kind int) api.System {
	t.Helper()
	p, _, _, err := syntax.Parse(text)
	if err != api.OK {
		t.Fatalf("Parse(%q) is %v", text, err)
	}
	s, err := equations.Of(p, kind)
	if err != api.OK {
		t.Fatalf("the system of the kind %d of %q is %v", kind, text, err)
	}
	return s
}

// checkQuery compares the answer about a node of a program with a written-out one, and the number of unknowns of its cone.
func checkQuery(t *testing.T, text string, kind, node, size int, want string) {
	t.Helper()
	st, _, err := solver.Run(systemOf(t, text, kind), nil, solver.Start(node), api.MaxGrant)
	if err != api.OK || len(st.Cone) != size {
		t.Errorf("Run for the node %d of %q is %q, %v", node, text, describe(st), err)
	}
	checkAnswer(t, st, want)
}

// P15.2, P15.3: the examples of the document about answers.
func TestAnswers(t *testing.T) {
	tainted := "func m; block b; source x; y = x; return; end"
	for node, want := range []string{"/2", "/2", "0/2", "0,1/2", "0,1/2"} {
		checkQuery(t, tainted, api.KindTaint, node, node+1, want)
	}
	checkQuery(t, "func m; block b; source x; sanitize x; y = x; return; end", api.KindTaint, 4, 5, "/2")
	looping := "func m; block b; branch x b c; block c; use y; return; end"
	checkQuery(t, looping, api.KindLive, 0, 5, "0,1/2")
	checkQuery(t, looping, api.KindLive, 1, 4, "0,1/2")
	checkQuery(t, looping, api.KindLive, 2, 3, "/2")
	checkQuery(t, looping, api.KindUninit, 3, 4, "0,1/2")
	calling := "func m; block b; call f; use x; return; end; func f; block b; x = y; return; end"
	checkQuery(t, calling, api.KindReach, 3, 8, "0/1")
	checkQuery(t, calling, api.KindReach, 1, 2, "/1")
	checkQuery(t, "func m; block b; x = y; use x; return; end", api.KindLive, 1, 4, "0/2")
}

// P15.3: all three take the state as it is, in PhaseDone.
func TestAsItIs(t *testing.T) {
	a, b, c, d := setOf(t, "0/2"), setOf(t, "1/2"), setOf(t, "2/70"), setOf(t, "/0")
	st := api.State{Phase: api.PhaseDone, Cone: []int{7, -3, 900, 7, 2}, Leaf: []bool{false, true, false, false, true}, Values: []api.Set{a, b, c, d, a}}
	checkAnswer(t, st, "0/2")
	// Equal unknowns stay in the order of Cone.
	checkFinal(t, st, "7=0/2", "7=/0", "900=2/70")
	checkUsed(t, st, -3, 2)
	st.Cone[0], st.Cone[3], st.Cone[4] = 901, 900, -3
	checkFinal(t, st, "900=2/70", "900=/0", "901=0/2")
	checkUsed(t, st, -3, -3)

	// Where a list is too short, the common indices count.
	st = api.State{Phase: api.PhaseDone, Cone: []int{5, 4, 3, 2}, Leaf: []bool{false, true, false, true}, Values: []api.Set{a, b, c, d}}
	st.Values = st.Values[:2]
	checkFinal(t, st, "5=0/2")
	checkUsed(t, st, 2, 4)
	st.Values, st.Leaf = []api.Set{a, b, c, d}, st.Leaf[:3]
	checkFinal(t, st, "3=2/70", "5=0/2")
	checkUsed(t, st, 4)
	st.Cone = st.Cone[:1]
	checkFinal(t, st, "5=0/2")
	checkUsed(t, st)
	st.Leaf = nil
	checkAnswer(t, st, "0/2")
	checkFinal(t, st)
	checkUsed(t, st)
	st.Cone, st.Leaf = nil, []bool{false, true}
	checkAnswer(t, st, "0/2")
	checkFinal(t, st)
	checkUsed(t, st)
	st.Cone, st.Values = []int{6, 5}, nil
	checkAnswer(t, st, "")
	checkFinal(t, st)
	checkUsed(t, st, 5)

	// A set that is not valid is a value like any other, and a leaf can be the root.
	wrong := api.Set{Width: -4, Words: []uint64{1, 2}}
	st = api.State{Phase: api.PhaseDone, Cone: []int{1, 0}, Leaf: []bool{true, false}, Values: []api.Set{wrong, wrong}}
	if got, ok := solver.Answer(st); !ok || got.Width != -4 || !slices.Equal(got.Words, wrong.Words) {
		t.Errorf("the answer is %v, %v", got, ok)
	}
	if list := solver.Final(st); len(list) != 1 || list[0].Node != 0 || list[0].Value.Width != -4 || !slices.Equal(list[0].Value.Words, wrong.Words) {
		t.Errorf("the final values are %v", list)
	}
	checkUsed(t, st, 1)
}

// P15.3, R5: nothing in the other phases.
func TestNotDone(t *testing.T) {
	for _, phase := range []int{0, api.PhaseDemand, api.PhaseSolve, 4, -1, -3, math.MaxInt, math.MinInt} {
		st := api.State{Phase: phase, Cone: []int{0, 1}, Leaf: []bool{false, true}, Values: []api.Set{setOf(t, "0/1"), setOf(t, "/1")}}
		checkAnswer(t, st, "")
		checkFinal(t, st)
		checkUsed(t, st)
		st.Phase = api.PhaseDone
		checkAnswer(t, st, "0/1")
		checkFinal(t, st, "0=0/1")
		checkUsed(t, st, 1)
	}
	checkAnswer(t, api.State{}, "")
	checkAnswer(t, api.State{Phase: api.PhaseDone}, "")
}

// checkInvalid checks that no function of a system and known values takes a state.
func checkInvalid(t *testing.T, what string, s api.System, k []api.Known, st api.State) {
	t.Helper()
	if solver.Valid(s, k, st) {
		t.Errorf("%s: the state %q is valid", what, describe(st))
	}
	if last, cost, err := solver.Step(s, k, st); describe(last) != describe(api.State{}) || cost != 0 || err != api.ErrInvalid {
		t.Errorf("%s: Step is %q, %d, %v", what, describe(last), cost, err)
	}
	for _, steps := range []int{0, 1, math.MaxInt, -1, math.MinInt} {
		if last, cost, err := solver.Run(s, k, st, steps); describe(last) != describe(api.State{}) || cost != 0 || err != api.ErrInvalid {
			t.Errorf("%s: Run of %d steps is %q, %d, %v", what, steps, describe(last), cost, err)
		}
	}
}

// P15.2, R4, R5: a number of steps that is negative, also in PhaseDone.
func TestNegativeSteps(t *testing.T) {
	s := plain(t, 1, []int{0})
	st := solver.Start(0)
	for {
		for _, steps := range []int{-1, -2, -api.MaxGrant, math.MinInt32, math.MinInt} {
			if last, cost, err := solver.Run(s, nil, st, steps); describe(last) != describe(api.State{}) || cost != 0 || err != api.ErrInvalid {
				t.Errorf("Run of %d steps is %q, %d, %v", steps, describe(last), cost, err)
			}
		}
		next, _, err := solver.Step(s, nil, st)
		if err != api.OK {
			return
		}
		st = next
	}
}

// P15.1, P15.2: known values that are not permitted, with a state that is.
func TestKnown(t *testing.T) {
	s := plain(t, 2, []int{1}, nil, []int{0})
	list := func(l ...any) []api.Known {
		var k []api.Known
		for pair := range slices.Chunk(l, 2) {
			k = append(k, api.Known{Node: pair[0].(int), Value: pair[1].(api.Set)})
		}
		return k
	}
	fine, other := setOf(t, "1/2"), setOf(t, "/2")
	bad := []api.Set{{}, {Width: 2}, {Width: -1}, {Width: 2, Words: []uint64{4}}, {Width: 2, Words: []uint64{1, 0}}, setOf(t, "/1"), setOf(t, "1/3"), {Width: 257, Words: make([]uint64, 5)}}
	done, _, err := solver.Run(s, nil, solver.Start(1), 9)
	if err != api.OK || done.Phase != api.PhaseDone {
		t.Fatalf("Run is %q, %v", describe(done), err)
	}
	for _, st := range []api.State{solver.Start(1), done} {
		for _, k := range [][]api.Known{nil, {}, list(0, fine), list(2, other), list(0, other, 2, fine)} {
			if !solver.Valid(s, k, st) {
				t.Errorf("%q with %v is not valid", describe(st), k)
			}
		}
		for _, k := range [][]api.Known{list(2, fine, 0, fine), list(0, fine, 0, fine), list(0, fine, 2, fine, 2, fine), list(0, other, 2, fine, 0, fine),
			list(3, fine), list(0, fine, 3, fine), list(-1, fine), list(-1, fine, 0, fine), list(math.MaxInt, fine), list(math.MinInt, fine), list(0, fine, math.MinInt, fine)} {
			checkInvalid(t, "known values", s, k, st)
		}
		for _, v := range bad {
			checkInvalid(t, "a known value", s, list(0, v), st)
			checkInvalid(t, "a known value", s, list(0, v, 2, fine), st)
			checkInvalid(t, "a known value", s, list(0, fine, 2, v), st)
		}
	}
	for _, k := range [][]api.Known{list(0, fine, 1, other, 2, fine), list(1, fine, 2, other)} {
		if !solver.Valid(s, k, solver.Start(1)) {
			t.Errorf("the start with %v is not valid", k)
		}
		checkInvalid(t, "the root is known now", s, k, done)
	}
}

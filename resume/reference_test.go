package resume_test

import (
	"bytes"
	"encoding/binary"
	"math/rand/v2"
	"reflect"
	"slices"
	"strconv"
	"testing"

	"flowquery/api"
	"flowquery/bitset"
	"flowquery/equations"
	"flowquery/resume"
	"flowquery/solver"
	"flowquery/syntax"
	"flowquery/transfer"
	"flowquery/validate"
)

// bodyOf returns the encoding of a state, without its checksum, from the definition, also if its numbers are too large.
func bodyOf(st api.State) []byte {
	var b []byte
	add := func(n int) { b = binary.AppendUvarint(b, uint64(n)) }
	add(st.Phase)
	add(len(st.Cone))
	for _, n := range st.Cone {
		add(n)
	}
	for _, isLeaf := range st.Leaf {
		add(map[bool]int{true: 1}[isLeaf])
	}
	add(st.At)
	add(st.Edge)
	add(len(st.Values))
	for _, v := range st.Values {
		members := bitset.Members(v)
		add(v.Width)
		add(len(members))
		for i, m := range members {
			if i > 0 {
				m -= members[i-1] + 1
			}
			add(m)
		}
	}
	add(len(st.Queue))
	for _, i := range st.Queue {
		add(i)
	}
	add(st.Steps)
	return b
}

// encodable reports whether a state is encodable, from the definition.
func encodable(st api.State) bool {
	numbers := slices.Concat(st.Cone, st.Queue, []int{st.At, st.Edge, st.Steps})
	return (st.Phase == 1 || st.Phase == 2 || st.Phase == 3) &&
		len(st.Cone) >= 1 && len(st.Cone) <= 256 && len(st.Leaf) == len(st.Cone) &&
		(len(st.Values) == 0 || len(st.Values) == len(st.Cone)) && len(st.Queue) <= 256 &&
		!slices.ContainsFunc(numbers, func(n int) bool { return n < 0 || n > 1<<30 }) &&
		!slices.ContainsFunc(st.Values, func(v api.Set) bool { return !bitset.Valid(v) })
}

// checkState compares Encode with the definition, and returns whether a state has an encoding.
func checkState(t *testing.T, st api.State) bool {
	t.Helper()
	if !encodable(st) {
		checkEncodeError(t, st)
		return false
	}
	checkBytes(t, st, bodyOf(st))
	return true
}

// decoded returns the state whose encoding, without its checksum, is given, from the definition: what the numbers say must
// have these bytes as its encoding.
func decoded(body []byte) (api.State, bool) {
	rest, complete := body, true
	take := func() int {
		n, size := binary.Uvarint(rest)
		// No number of an encoding is above MaxCounter.
		if size <= 0 || n > 1<<30 {
			complete = false
			return 0
		}
		rest = rest[size:]
		return int(n)
	}
	list := func(length int) []int {
		var numbers []int
		for i := 0; i < length && complete; i++ {
			numbers = append(numbers, take())
		}
		return numbers
	}
	st := api.State{Phase: take(), Cone: list(take())}
	for _, n := range list(len(st.Cone)) {
		complete = complete && n < 2
		st.Leaf = append(st.Leaf, n == 1)
	}
	st.At, st.Edge = take(), take()
	for i, count := 0, take(); i < count && complete; i++ {
		width, members, next := take(), list(take()), 0
		for i := range members {
			members[i] += next
			next = members[i] + 1
		}
		v, err := bitset.Of(width, members)
		complete = complete && err == api.OK
		st.Values = append(st.Values, v)
	}
	st.Queue = list(take())
	st.Steps = take()
	if !complete || !encodable(st) || !bytes.Equal(bodyOf(st), body) {
		return api.State{}, false
	}
	return st, true
}

// checkBody compares Decode with the definition, and returns whether there is a state with this encoding.
func checkBody(t *testing.T, body []byte) bool {
	t.Helper()
	want, ok := decoded(body)
	if !ok {
		checkDecodeError(t, sealed(body...), api.ErrMalformed)
		return false
	}
	checkBytes(t, want, body)
	return true
}

// lists returns all lists of these numbers up to a length.
func lists(numbers []int, most int) [][]int {
	all, longest := [][]int{nil}, [][]int{nil}
	for range most {
		var longer [][]int
		for _, list := range longest {
			for _, n := range numbers {
				longer = append(longer, append(slices.Clone(list), n))
			}
		}
		all, longest = append(all, longer...), longer
	}
	return all
}

// P18.1, P18.2: all small states, most of which are not valid for any system.
func TestSmallStates(t *testing.T) {
	found, count := 0, 0
	check := func(st api.State) {
		count++
		if checkState(t, st) {
			found++
		}
	}
	sets := []api.Set{{}, setOf(t, "0/1"), {Width: 1}, setOf(t, "1/2")}
	for phase := range 5 {
		for _, cone := range lists([]int{-1, 0, 200, api.MaxCounter + 1}, 2) {
			for _, queue := range lists([]int{-1, 0, api.MaxCounter}, 2) {
				for length := range 4 {
					for _, numbers := range lists([]int{0, 1, 2, 3}, 2) {
						st := api.State{Phase: phase, Cone: cone, Leaf: make([]bool, length), Queue: queue}
						for _, n := range numbers {
							st.Values = append(st.Values, sets[n])
						}
						check(st)
					}
				}
			}
		}
		for _, numbers := range lists([]int{-1, 0, 1, 127, 128, api.MaxCounter, api.MaxCounter + 1}, 3) {
			if len(numbers) == 3 {
				check(api.State{Phase: phase, Cone: []int{1}, Leaf: []bool{phase == 2}, At: numbers[0], Edge: numbers[1], Steps: numbers[2]})
			}
		}
	}
	if found < 1000 || count-found < 1000 {
		t.Errorf("of %d states, %d have an encoding", count, found)
	}
}

// P18.2: all bytes up to a length of two with a checksum, and longer ones of small numbers.
func TestDecodeShort(t *testing.T) {
	for length := range 3 {
		for number := range 1 << (8 * length) {
			if body := []byte{byte(number), byte(number >> 8)}[:length]; checkBody(t, body) {
				t.Errorf("%x is an encoding", body)
			}
		}
	}
	found := 0
	alphabet := []byte{0, 1, 2, 128}
	for length := range 11 {
		for number := range 1 << (2 * length) {
			body := make([]byte, length)
			for i := range body {
				body[i] = alphabet[number>>(2*i)&3]
			}
			if checkBody(t, body) {
				found++
			}
		}
	}
	if found < 1000 {
		t.Errorf("only %d are encodings", found)
	}
}

// someSet returns a set of random members, each with a probability of one in rare.
func someSet(r *rand.Rand, width, rare int) api.Set {
	var members []int
	for b := range width {
		if r.IntN(rare) == 0 {
			members = append(members, b)
		}
	}
	s, _ := bitset.Of(width, members)
	return s
}

// someNumber returns a random counter with a random number of bits.
func someNumber(r *rand.Rand) int { return min(r.IntN(1<<r.IntN(32)), api.MaxCounter) }

// someNumbers returns a list of random counters.
func someNumbers(r *rand.Rand, length int) []int {
	list := make([]int, length)
	for i := range list {
		list[i] = someNumber(r)
	}
	return list
}

// someState returns a random state that is encodable, but mostly not one that a solver can be in.
func someState(r *rand.Rand) api.State {
	size := 1 + r.IntN(1<<r.IntN(9))
	st := api.State{Phase: 1 + r.IntN(3), Cone: someNumbers(r, size), At: someNumber(r), Edge: someNumber(r), Queue: someNumbers(r, r.IntN(1<<r.IntN(9)+1)), Steps: someNumber(r)}
	hasValues := r.IntN(3) > 0
	for range size {
		st.Leaf = append(st.Leaf, r.IntN(2) == 0)
		if hasValues {
			st.Values = append(st.Values, someSet(r, r.IntN(1<<r.IntN(9)+1), 1+r.IntN(8)))
		}
	}
	return st
}

// changeSome changes one part of an encodable state, which need not be encodable afterwards.
func changeSome(r *rand.Rand, st *api.State) {
	number := []int{-1, 0, 1, api.MaxCounter, api.MaxCounter + 1, someNumber(r), -someNumber(r), api.MaxNodes}[r.IntN(8)]
	switch r.IntN(9) {
	case 0:
		st.Phase = r.IntN(6) - 1
	case 1:
		st.Cone[r.IntN(len(st.Cone))] = number
	case 2:
		st.Cone = st.Cone[:len(st.Cone)-1]
	case 3:
		st.Leaf = append(st.Leaf, true)[r.IntN(3)/2:]
	case 4:
		*[]*int{&st.At, &st.Edge, &st.Steps}[r.IntN(3)] = number
	case 5:
		if len(st.Values) > 0 {
			v := &st.Values[r.IntN(len(st.Values))]
			v.Width += r.IntN(3) - 1
		}
	case 6:
		st.Values = st.Values[:len(st.Values)*r.IntN(3)/2]
	case 7:
		st.Values = append(st.Values, someSet(r, r.IntN(5), 2))
	case 8:
		st.Queue = append(st.Queue, number)
	}
}

// P18.1, P18.2: generated states and changes of them.
func TestGeneratedStates(t *testing.T) {
	r := rand.New(rand.NewPCG(18, 1))
	found, changes := 0, 0
	for range 400 {
		st := someState(r)
		if !checkState(t, st) {
			t.Errorf("%v is not encodable", st)
		}
		for range 20 {
			other := copied(st)
			changeSome(r, &other)
			changes++
			if checkState(t, other) {
				found++
			}
		}
	}
	if found < 1000 || changes-found < 1000 {
		t.Errorf("of %d changes, %d have an encoding", changes, found)
	}
}

// P18.2: encodings of generated states, their beginnings, and changes of their bytes.
func TestGeneratedBytes(t *testing.T) {
	r := rand.New(rand.NewPCG(18, 2))
	found, changes := 0, 0
	for range 300 {
		body := bodyOf(someState(r))
		for i := range min(len(body), 200) {
			if checkBody(t, body[:i]) {
				t.Errorf("the beginning %x of %x is an encoding, too", body[:i], body)
			}
		}
		for range 100 {
			other := slices.Clone(body)
			// Most of the changes are near the beginning, where the lengths are.
			i := r.IntN(min(len(other), 1<<(3+r.IntN(10))))
			switch r.IntN(5) {
			case 0:
				other[i] = byte(r.IntN(256))
			case 1:
				other[i] ^= 1 << r.IntN(8)
			case 2:
				other = slices.Insert(other, i, byte(r.IntN(256)))
			case 3:
				other = slices.Delete(other, i, i+1)
			case 4:
				other = append(other, byte(r.IntN(3)))
			}
			changes++
			if checkBody(t, other) {
				found++
			}
		}
	}
	if found < 1000 || changes-found < 1000 {
		t.Errorf("of %d changes, %d are encodings", changes, found)
	}
}

// plain returns a system of these dependencies whose functions are identities and whose boundaries are empty.
func plain(t *testing.T, width int, deps ...[]int) api.System {
	t.Helper()
	s := api.System{Width: width, Deps: deps}
	for range deps {
		same, err := transfer.Identity(width)
		if err != api.OK {
			t.Fatalf("Identity(%d) is %v", width, err)
		}
		s.Transfers = append(s.Transfers, same)
		s.Boundary = append(s.Boundary, setOf(t, "/"+strconv.Itoa(width)))
	}
	return s
}

// someFunction returns a random function, which is mostly not canonical.
func someFunction(r *rand.Rand, width int) api.Transfer {
	f := api.Transfer{Gen: someSet(r, width, 12), Kill: someSet(r, width, 2)}
	for from := range width {
		for to := range width {
			if r.IntN(width) == 0 && len(f.Copies) < api.MaxCopies {
				f.Copies = append(f.Copies, api.Copy{From: from, To: to})
			}
		}
	}
	return f
}

// someSystem returns a valid system with random parts.
func someSystem(r *rand.Rand, width, size int) api.System {
	s, each := api.System{Width: width, Deps: make([][]int, size)}, 1+r.IntN(2)
	for n := range size {
		for m := range size {
			if r.IntN(size) < each {
				s.Deps[n] = append(s.Deps[n], m)
			}
		}
		s.Transfers = append(s.Transfers, someFunction(r, width))
		s.Boundary = append(s.Boundary, someSet(r, width, 8))
	}
	return s
}

// thawed returns the state of the encoding of a state.
func thawed(t *testing.T, st api.State) api.State {
	t.Helper()
	b, err := resume.Encode(st)
	if err != api.OK {
		t.Fatalf("the encoding of %v is %v", st, err)
	}
	other, err := resume.Decode(b)
	if err != api.OK || !equal(other, st) {
		t.Fatalf("Decode of the encoding of %v is %v, %v", st, other, err)
	}
	return other
}

// checkRun checks that a solver that is encoded and decoded after each step goes on as one that is not. It returns the last
// state.
func checkRun(t *testing.T, s api.System, k []api.Known, root int) api.State {
	t.Helper()
	plain, kept := solver.Start(root), solver.Start(root)
	for {
		checkState(t, plain)
		kept = thawed(t, kept)
		if !solver.Valid(s, k, kept) {
			t.Fatalf("the state %v of %v with %v is not valid", kept, s, k)
		}
		var cost, keptCost int
		var err, keptErr api.Errno
		plain, cost, err = solver.Step(s, k, plain)
		last := kept
		kept, keptCost, keptErr = solver.Step(s, k, kept)
		if !equal(kept, plain) || keptCost != cost || keptErr != err {
			t.Fatalf("a step from %v of %v with %v leads to %v, %d, %v, want %v, %d, %v", last, s, k, kept, keptCost, keptErr, plain, cost, err)
		}
		if err != api.OK {
			return last
		}
	}
}

// P18.1, P18.2: the states of solvers of generated systems, some with known values.
func TestSolvers(t *testing.T) {
	r := rand.New(rand.NewPCG(18, 3))
	for range 300 {
		s := someSystem(r, r.IntN(1<<r.IntN(8)), 1+r.IntN(12))
		var k []api.Known
		for n := range s.Deps {
			if r.IntN(4) == 0 {
				k = append(k, api.Known{Node: n, Value: someSet(r, s.Width, 2)})
			}
		}
		root := r.IntN(len(s.Deps))
		last := checkRun(t, s, k, root)
		whole, _, err := solver.Run(s, k, solver.Start(root), api.MaxCounter)
		if err != api.OK || !equal(last, whole) {
			t.Errorf("the last state is %v, want %v, %v", last, whole, err)
		}
	}
}

// generate returns the text of a program that is valid unless it has too many nodes.
func generate(r *rand.Rand) string {
	pick := func(list ...string) string { return list[r.IntN(len(list))] }
	variable := func() string { return pick("x", "y", "z", "m", "v"+strconv.Itoa(r.IntN(9))) }
	funcs := []string{"m", "f", "g"}[:1+r.IntN(3)]
	text := ""
	for _, f := range funcs {
		text += "func " + f + "\n"
		blocks := []string{"b0", "b1", "x", "exit", "m"}[:1+r.IntN(5)]
		for _, b := range blocks {
			text += "block " + b + "\n"
			for range r.IntN(1 + r.IntN(12)) {
				text += pick(variable()+" =", variable()+" = "+variable(), variable()+" = "+variable()+" "+variable(), "use "+variable(), "call "+pick(funcs...),
					"source "+variable(), "sink "+variable(), "sanitize "+variable()) + "\n"
			}
			text += pick("return", "goto "+pick(blocks...), "branch "+variable()+" "+pick(blocks...)+" "+pick(blocks...)) + "\n"
		}
		text += "end\n"
	}
	return text
}

// P18.1, P18.2, P0.6: the states of solvers of all analyses of generated programs.
func TestGeneratedPrograms(t *testing.T) {
	r := rand.New(rand.NewPCG(18, 4))
	checked := 0
	for range 20 {
		text := generate(r)
		p, _, _, err := syntax.Parse(text)
		if err != api.OK {
			t.Fatalf("Parse(%q) is %v", text, err)
		}
		if _, err := validate.Check(p); err != api.OK {
			continue
		}
		for kind := api.KindReach; kind <= api.KindUninit; kind++ {
			s, err := equations.Of(p, kind)
			if err != api.OK {
				t.Fatalf("the equations of %q are %v", text, err)
			}
			checkRun(t, s, nil, r.IntN(len(s.Deps)))
			checked++
		}
	}
	if checked < 40 {
		t.Errorf("only %d systems are checked", checked)
	}
}

func copiedSet(s api.Set) api.Set { return api.Set{Width: s.Width, Words: slices.Clone(s.Words)} }

// copied returns a state that is equal and shares no memory.
func copied(st api.State) api.State {
	c := st
	c.Cone, c.Leaf, c.Queue, c.Values = slices.Clone(st.Cone), slices.Clone(st.Leaf), slices.Clone(st.Queue), nil
	for _, v := range st.Values {
		c.Values = append(c.Values, copiedSet(v))
	}
	return c
}

// places collects the places of elements of slices, and those that are there more than once.
type places struct {
	seen   map[any]bool
	shared int
}

func addAll[T any](p *places, list []T) {
	list = list[:cap(list)]
	for i := range list {
		if p.seen[&list[i]] {
			p.shared++
		}
		p.seen[&list[i]] = true
	}
}

func (p *places) addState(st api.State) {
	addAll(p, st.Cone)
	addAll(p, st.Leaf)
	addAll(p, st.Values)
	for _, v := range st.Values {
		addAll(p, v.Words)
	}
	addAll(p, st.Queue)
}

// R2: no function modifies its arguments, and no results share memory with each other, with an argument or within themselves.
func TestMemory(t *testing.T) {
	r := rand.New(rand.NewPCG(18, 5))
	memory := places{seen: map[any]bool{}}
	for range 100 {
		st := someState(r)
		memory.addState(st)
		before := copied(st)
		b, _ := resume.Encode(st)
		second, _ := resume.Encode(st)
		addAll(&memory, b)
		addAll(&memory, second)
		bytesBefore := slices.Clone(b)
		for range 2 {
			got, _ := resume.Decode(b)
			memory.addState(got)
		}
		resume.Text(st)
		if !slices.Equal(b, bytesBefore) || !reflect.DeepEqual(copied(st), before) {
			t.Errorf("the bytes %v or the state %v was modified", bytesBefore, before)
		}
	}
	if memory.shared > 0 || len(memory.seen) == 0 {
		t.Errorf("%d elements of slices are shared", memory.shared)
	}
}

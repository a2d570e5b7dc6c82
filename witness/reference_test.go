package witness_test

import (
	"cmp"
	"math/rand/v2"
	"slices"
	"strconv"
	"testing"

	"flowquery/api"
	"flowquery/bitset"
	"flowquery/transfer"
	"flowquery/validate"
	"flowquery/witness"
)

// kinds are all kinds of analyses.
var kinds = []int{api.KindReach, api.KindLive, api.KindTaint, api.KindUninit}

// holds reports whether a bit of a valid set is a member.
func holds(s api.Set, b int) bool { return s.Words[b/64]>>(b%64)&1 == 1 }

// isHop reports whether a hop is a bit of an unknown.
func isHop(s api.System, h api.Hop) bool {
	return h.Node >= 0 && h.Node < len(s.Deps) && h.Bit >= 0 && h.Bit < s.Width
}

// begins reports whether a hop of a system has an origin, from the definition.
func begins(s api.System, h api.Hop) bool {
	begins := holds(s.Boundary[h.Node], h.Bit)
	for _, k := range s.Deps[h.Node] {
		begins = begins || holds(s.Transfers[k].Gen, h.Bit)
	}
	return begins
}

// follows reports whether one bit follows from another one, from the definition.
func follows(f api.Transfer, from, to int) bool {
	return from == to && !holds(f.Kill, to) || slices.Contains(f.Copies, api.Copy{From: from, To: to})
}

// isWitness reports whether a list of hops is a witness for a bit of a valid system, from the definition.
func isWitness(s api.System, goal api.Hop, l []api.Hop) bool {
	if len(l) == 0 || l[len(l)-1] != goal || slices.ContainsFunc(l, func(h api.Hop) bool { return !isHop(s, h) }) || !begins(s, l[0]) {
		return false
	}
	for i := 1; i < len(l); i++ {
		if !slices.Contains(s.Deps[l[i].Node], l[i-1].Node) || !follows(s.Transfers[l[i-1].Node], l[i-1].Bit, l[i].Bit) {
			return false
		}
	}
	return true
}

// compareHops compares hops by Node and then by Bit.
func compareHops(a, b api.Hop) int {
	return cmp.Or(cmp.Compare(a.Node, b.Node), cmp.Compare(a.Bit, b.Bit))
}

// firstWitnesses returns the witness with the fewest hops, and the first one among these, for each bit that has one. Those
// with one more hop continue those of a number of hops.
func firstWitnesses(s api.System) map[api.Hop][]api.Hop {
	first, dependents := map[api.Hop][]api.Hop{}, make([][]int, len(s.Deps))
	var last []api.Hop
	for n, deps := range s.Deps {
		for _, m := range deps {
			dependents[m] = append(dependents[m], n)
		}
		for b := range s.Width {
			if h := (api.Hop{Node: n, Bit: b}); begins(s, h) {
				first[h] = []api.Hop{h}
				last = append(last, h)
			}
		}
	}
	for len(last) > 0 {
		longer := map[api.Hop][]api.Hop{}
		for _, h := range last {
			for _, to := range continued(s, dependents, h) {
				list := append(slices.Clone(first[h]), to)
				if known := longer[to]; len(first[to]) == 0 && (known == nil || slices.CompareFunc(list, known, compareHops) < 0) {
					longer[to] = list
				}
			}
		}
		last = nil
		for h, list := range longer {
			first[h] = list
			last = append(last, h)
		}
	}
	return first
}

// continued returns the hops that can come directly after one.
func continued(s api.System, dependents [][]int, h api.Hop) []api.Hop {
	var list []api.Hop
	for to := range s.Width {
		if !follows(s.Transfers[h.Node], h.Bit, to) {
			continue
		}
		for _, n := range dependents[h.Node] {
			list = append(list, api.Hop{Node: n, Bit: to})
		}
	}
	return list
}

// checkWhole checks the proofs of all bits of a system, and that the bits with witnesses are the least solution.
func checkWhole(t *testing.T, s api.System) map[api.Hop][]api.Hop {
	t.Helper()
	first, least := firstWitnesses(s), leastOf(t, s)
	for n := range s.Deps {
		for b := range s.Width {
			checkBit(t, s, first, least, n, b)
		}
	}
	return first
}

// checkBit checks the proofs of one bit.
func checkBit(t *testing.T, s api.System, first map[api.Hop][]api.Hop, least []api.Set, n, b int) {
	t.Helper()
	list := first[api.Hop{Node: n, Bit: b}]
	if holds(least[n], b) != (len(list) > 0) || len(list) > len(s.Deps)*s.Width {
		t.Fatalf("%v has the witness %v for %d in %d, and the least solution %v", s, list, b, n, least)
	}
	checkProofs(t, s, n, b, list, least)
}

// listsOf returns all lists of hops of a system with at most so many hops, the shorter ones first, and each length in order.
func listsOf(size, width, most int) [][]api.Hop {
	lists, level := [][]api.Hop{nil}, [][]api.Hop{nil}
	for range most {
		var longer [][]api.Hop
		for _, list := range level {
			for i := range size * width {
				longer = append(longer, append(slices.Clone(list), api.Hop{Node: i / width, Bit: i % width}))
			}
		}
		lists, level = append(lists, longer...), longer
	}
	return lists
}

// checkLists compares Check with the definition for lists of hops in order, and Find with the first one that is a witness.
func checkLists(t *testing.T, s api.System, lists [][]api.Hop) {
	t.Helper()
	least := leastOf(t, s)
	for i := range len(s.Deps) * s.Width {
		goal := api.Hop{Node: i / s.Width, Bit: i % s.Width}
		var first []api.Hop
		for _, list := range lists {
			want := isWitness(s, goal, list)
			if want && first == nil {
				first = list
			}
			if witness.Check(s, goal.Node, goal.Bit, list) != want {
				t.Fatalf("Check of %v in %v and %v is %v", goal, s, list, !want)
			}
		}
		checkProofs(t, s, goal.Node, goal.Bit, first, least)
	}
}

// isAbove reports whether values of a system are above it, from the definition.
func isAbove(s api.System, values []api.Set) bool {
	for n, deps := range s.Deps {
		for b := range s.Width {
			in := holds(s.Boundary[n], b)
			for _, m := range deps {
				in = in || holds(s.Transfers[m].Gen, b)
				for a := range s.Width {
					in = in || holds(values[m], a) && follows(s.Transfers[m], a, b)
				}
			}
			if in && !holds(values[n], b) {
				return false
			}
		}
	}
	return true
}

// checkAbove compares CheckAbsent with the definition, for all bits of a system and values of it.
func checkAbove(t *testing.T, s api.System, values []api.Set) {
	t.Helper()
	above := isAbove(s, values)
	for n, v := range values {
		for b := range s.Width {
			if want := above && !holds(v, b); witness.CheckAbsent(s, n, b, values) != want {
				t.Fatalf("CheckAbsent of %d in %d of %v and %v is %v", b, n, s, values, !want)
			}
		}
	}
}

// checkAllValues checks CheckAbsent for all values of a small system.
func checkAllValues(t *testing.T, s api.System) {
	t.Helper()
	size := len(s.Deps)
	for number := range 1 << (size * s.Width) {
		var values []api.Set
		for n := range size {
			values = append(values, api.Set{Width: s.Width, Words: []uint64{uint64(number) >> (n * s.Width) & (1<<s.Width - 1)}})
		}
		checkAbove(t, s, values)
	}
}

// numberedSystem returns the system of a width from 1 to 8 and a size whose parts are the digits of a number.
func numberedSystem(width, size int, number uint64) api.System {
	take := func(count int) uint64 {
		digits := number & (1<<count - 1)
		number >>= count
		return digits
	}
	set := func() api.Set { return api.Set{Width: width, Words: []uint64{take(width)}} }
	s := api.System{Width: width}
	for range size {
		var deps []int
		for m := range size {
			if take(1) == 1 {
				deps = append(deps, m)
			}
		}
		f := api.Transfer{Gen: set(), Kill: set()}
		for c := range width * width {
			if take(1) == 1 {
				f.Copies = append(f.Copies, api.Copy{From: c / width, To: c % width})
			}
		}
		s.Deps, s.Boundary, s.Transfers = append(s.Deps, deps), append(s.Boundary, set()), append(s.Transfers, f)
	}
	return s
}

// P16.1 to P16.3: all systems of one unknown of the widths 1 and 2 and of two unknowns of the width 1, and some with up to
// four bits in all, with all lists of up to one hop more than there are bits, and with all values.
func TestSmallSystems(t *testing.T) {
	r := rand.New(rand.NewPCG(16, 2))
	for _, c := range []struct{ width, size, some int }{{1, 1, 0}, {2, 1, 0}, {1, 2, 0}, {3, 1, 1000}, {1, 3, 1000}, {2, 2, 500}, {1, 4, 500}, {4, 1, 500}} {
		digits := c.size * (c.size + 3*c.width + c.width*c.width)
		lists := listsOf(c.size, c.width, min(c.size*c.width+1, 4))
		numbers := uint64(1) << digits
		if c.some > 0 {
			numbers = uint64(c.some)
		}
		for number := range numbers {
			if c.some > 0 {
				// Fewer bits than half of them: otherwise nearly all witnesses have one hop only.
				number = r.Uint64() & (r.Uint64() | r.Uint64()) & (1<<digits - 1)
			}
			s := numberedSystem(c.width, c.size, number)
			checkLists(t, s, lists)
			checkAllValues(t, s)
		}
	}
}

// someSet returns a set of random members, each with a probability of one in rare.
func someSet(r *rand.Rand, width, rare int) api.Set {
	var members []int
	for b := range width {
		if r.IntN(rare) == 0 {
			members = append(members, b)
		}
	}
	s, _ := bitset.Of(width, members)
	return s
}

// someFunction returns a random function, which is mostly not canonical.
func someFunction(r *rand.Rand, width int) api.Transfer {
	f := api.Transfer{Gen: someSet(r, width, 25), Kill: someSet(r, width, 2)}
	for from := range width {
		for to := range width {
			if r.IntN(width) == 0 && len(f.Copies) < api.MaxCopies {
				f.Copies = append(f.Copies, api.Copy{From: from, To: to})
			}
		}
	}
	return f
}

// someSystem returns a valid system with random parts.
func someSystem(r *rand.Rand, width, size int) api.System {
	s := api.System{Width: width}
	each := 1 + r.IntN(2)
	for range size {
		var deps []int
		for m := range size {
			if r.IntN(size) < each {
				deps = append(deps, m)
			}
		}
		s.Deps, s.Boundary, s.Transfers = append(s.Deps, deps), append(s.Boundary, someSet(r, width, 20)), append(s.Transfers, someFunction(r, width))
	}
	return s
}

// someHop returns a random hop, mostly one of a system.
func someHop(r *rand.Rand, s api.System) api.Hop {
	return api.Hop{Node: r.IntN(len(s.Deps)+2) - 1, Bit: r.IntN(s.Width+2) - 1}
}

// changed returns a list with a random change.
func changed(r *rand.Rand, s api.System, list []api.Hop) []api.Hop {
	list = slices.Clone(list)
	i := r.IntN(len(list))
	switch r.IntN(7) {
	case 0:
		list[i] = someHop(r, s)
	case 1:
		list[i].Node = someHop(r, s).Node
	case 2:
		list[i].Bit = someHop(r, s).Bit
	case 3:
		return slices.Delete(list, i, i+1)
	case 4:
		return slices.Insert(list, i, list[i])
	case 5:
		return slices.Insert(list, i, someHop(r, s))
	case 6:
		return list[:i]
	}
	return list
}

// walk returns a random list of hops, each of which can come directly after the one before.
func walk(r *rand.Rand, s api.System, h api.Hop, most int) []api.Hop {
	dependents := make([][]int, len(s.Deps))
	for n, deps := range s.Deps {
		for _, m := range deps {
			dependents[m] = append(dependents[m], n)
		}
	}
	list := []api.Hop{h}
	for len(list) < most {
		after := continued(s, dependents, list[len(list)-1])
		if len(after) == 0 {
			break
		}
		list = append(list, after[r.IntN(len(after))])
	}
	return list
}

// checkWalks checks walks from the first hops of witnesses, which are witnesses themselves, and changes of them.
func checkWalks(t *testing.T, r *rand.Rand, s api.System, first map[api.Hop][]api.Hop) (valid, changes int) {
	t.Helper()
	for n := range s.Deps {
		for b := range s.Width {
			list := first[api.Hop{Node: n, Bit: b}]
			if len(list) == 0 || r.IntN(4) > 0 {
				continue
			}
			list = walk(r, s, list[0], 1+r.IntN(20))
			goal := list[len(list)-1]
			if !isWitness(s, goal, list) || !witness.Check(s, goal.Node, goal.Bit, list) {
				t.Fatalf("%v is no witness for %v in %v", list, goal, s)
			}
			for range 10 {
				other := changed(r, s, list)
				want := isWitness(s, goal, other)
				if witness.Check(s, goal.Node, goal.Bit, other) != want {
					t.Fatalf("Check of %v in %v and %v is %v", goal, s, other, !want)
				}
				changes++
				if want {
					valid++
				}
			}
		}
	}
	return valid, changes
}

// someValues returns values of which half are above a system.
func someValues(r *rand.Rand, s api.System, least []api.Set) []api.Set {
	var values []api.Set
	for _, v := range least {
		union, _ := bitset.Union(v, someSet(r, s.Width, 10))
		values = append(values, union)
	}
	for again := r.IntN(2) == 0; again; {
		again = false
		for n, deps := range s.Deps {
			for _, m := range deps {
				part, _ := transfer.Apply(s.Transfers[m], values[m])
				union, _ := bitset.Union(values[n], part)
				again = again || !bitset.Equal(union, values[n])
				values[n] = union
			}
		}
	}
	return values
}

// P16.1 to P16.3: generated systems.
func TestGeneratedSystems(t *testing.T) {
	r := rand.New(rand.NewPCG(16, 3))
	valid, changes, longest, none, above := 0, 0, 0, 0, 0
	for i := range 600 {
		width, size := 1+r.IntN(8), 1+r.IntN(14)
		if i%20 == 0 {
			width, size = 60+r.IntN(10), 1+r.IntN(6)
		}
		s := someSystem(r, width, size)
		first := checkWhole(t, s)
		none += width*size - len(first)
		for _, list := range first {
			longest = max(longest, len(list))
		}
		v, c := checkWalks(t, r, s, first)
		valid, changes = valid+v, changes+c
		for range 3 {
			values := someValues(r, s, leastOf(t, s))
			checkAbove(t, s, values)
			if isAbove(s, values) {
				above++
			}
		}
	}
	if valid < 1000 || changes-valid < 1000 || longest < 8 || none < 1000 || above < 300 || above > 1500 {
		t.Errorf("of %d changes, %d are witnesses; the longest witness has %d hops; %d bits have none; %d values are above", changes, valid, longest, none, above)
	}
}

// generate returns the text of a program that is valid unless it has too many nodes.
func generate(r *rand.Rand) string {
	pick := func(list ...string) string { return list[r.IntN(len(list))] }
	variable := func() string { return pick("x", "y", "z", "m", "v"+strconv.Itoa(r.IntN(9))) }
	funcs := []string{"m", "f", "g"}[:1+r.IntN(3)]
	text := ""
	for _, f := range funcs {
		text += "func " + f + "\n"
		blocks := []string{"b0", "b1", "x", "exit", "m"}[:1+r.IntN(5)]
		for _, b := range blocks {
			text += "block " + b + "\n"
			for range r.IntN(1 + r.IntN(12)) {
				text += pick(variable()+" =", variable()+" = "+variable(), variable()+" = "+variable()+" "+variable(), "use "+variable(), "call "+pick(funcs...),
					"source "+variable(), "sink "+variable(), "sanitize "+variable()) + "\n"
			}
			text += pick("return", "goto "+pick(blocks...), "branch "+variable()+" "+pick(blocks...)+" "+pick(blocks...)) + "\n"
		}
		text += "end\n"
	}
	return text
}

// P16.1 to P16.4: all analyses of generated programs, some bits of each, and the texts of their witnesses.
func TestGeneratedPrograms(t *testing.T) {
	r := rand.New(rand.NewPCG(16, 4))
	found, checked := 0, 0
	for range 40 {
		p := parse(t, generate(r))
		if _, err := validate.Check(p); err != api.OK {
			continue
		}
		for _, kind := range kinds {
			s := systemOf(t, p, kind)
			first, least := firstWitnesses(s), leastOf(t, s)
			checkLabels(t, p, kind)
			for range 60 {
				if s.Width == 0 {
					break
				}
				n, b := r.IntN(len(s.Deps)), r.IntN(s.Width)
				checkBit(t, s, first, least, n, b)
				checked++
				if list := first[api.Hop{Node: n, Bit: b}]; len(list) > 0 {
					checkText(t, p, kind, list)
					found++
				}
			}
		}
	}
	if found < 1000 || checked-found < 1000 {
		t.Errorf("%d of %d bits have a witness", found, checked)
	}
}

// ring returns a system in which a bit goes around all unknowns before the next one follows from it, or nearly.
func ring(t *testing.T, size, width int) api.System {
	t.Helper()
	deps := make([][]int, size)
	for n := range deps {
		deps[n] = []int{(n + size - 1) % size}
	}
	s := plain(t, width, deps...)
	s.Boundary[0] = setOf(t, "0/"+strconv.Itoa(width))
	for b := range width - 1 {
		f := &s.Transfers[size-1-b/api.MaxCopies]
		f.Copies = append(f.Copies, api.Copy{From: b, To: b + 1})
	}
	return s
}

// P16.1, P16.2: the longest witnesses, which have a hop for each bit of each unknown.
func TestLongestWitness(t *testing.T) {
	for _, size := range []int{1, 2, 7} {
		s := ring(t, size, api.MaxCopies+1)
		first := checkWhole(t, s)
		if list := first[api.Hop{Node: size - 1, Bit: api.MaxCopies}]; len(list) != size*s.Width {
			t.Errorf("the last bit of %d unknowns has %d hops", size, len(list))
		}
	}
	s := ring(t, api.MaxNodes, api.MaxWidth)
	// Three bits are one hop shorter: the unknown that copies them comes before the one that copies the bits before.
	n, want := api.MaxNodes-4, api.MaxNodes*api.MaxWidth-3
	list, found, err := witness.Find(s, n, api.MaxWidth-1)
	if err != api.OK || !found || len(list) != want || !isWitness(s, api.Hop{Node: n, Bit: api.MaxWidth - 1}, list) || !witness.Check(s, n, api.MaxWidth-1, list) {
		t.Errorf("the last bit has %d hops, %v, %v, want %d", len(list), found, err, want)
	}
	list[len(list)/2].Bit++
	if witness.Check(s, n, api.MaxWidth-1, list) {
		t.Error("a long list with a wrong hop is a witness")
	}
}

// P16.1 to P16.3: the limits of unknowns, dependencies, copies and width.
func TestLimits(t *testing.T) {
	all := make([]int, api.MaxNodes)
	for n := range all {
		all[n] = n
	}
	dense := slices.Repeat([][]int{all[:32]}, 32)
	wide := append(slices.Repeat([][]int{all}, 4), make([][]int, api.MaxNodes-4)...)
	few := make([][]int, api.MaxNodes)
	for n := range few {
		few[n] = []int{n / 4, n/4 + 64, n/4 + 128, n/4 + 192}
	}
	r := rand.New(rand.NewPCG(16, 5))
	for _, deps := range [][][]int{dense, wide, few} {
		s := plain(t, api.MaxWidth, deps...)
		for n := range deps {
			s.Boundary[n], s.Transfers[n] = someSet(r, api.MaxWidth, 500), someFunction(r, api.MaxWidth)
			s.Transfers[n].Gen = someSet(r, api.MaxWidth, 500)
		}
		first, least := firstWitnesses(s), leastOf(t, s)
		for range 20 {
			checkBit(t, s, first, least, r.IntN(len(deps)), r.IntN(api.MaxWidth))
		}
	}
	for width := 1; width <= api.MaxWidth; width++ {
		s := plain(t, width, nil, []int{0, 1})
		s.Boundary[0], _ = bitset.Full(width)
		s.Transfers[0].Kill, _ = bitset.Of(width, []int{width / 2})
		checkFind(t, s, 1, width-1, hopNumbers(width-1 != width/2, 0, width-1, 1, width-1)...)
		checkFind(t, s, 1, width/2)
		checkFind(t, s, 0, width/2, 0, width/2)
	}
	checkError(t, plain(t, 1, append(slices.Clone(dense), []int{0})...), 0, 0, api.ErrInvalid)
	checkError(t, plain(t, 1, make([][]int, api.MaxNodes+1)...), 0, 0, api.ErrInvalid)
}

// hopNumbers returns the numbers of hops, or none.
func hopNumbers(some bool, numbers ...int) []int {
	if !some {
		return nil
	}
	return numbers
}

// P16.2, R1: a list of many more hops than there are bits.
func TestLongLists(t *testing.T) {
	s := plain(t, 2, []int{1}, []int{0})
	s.Boundary[0], s.Transfers[0], s.Transfers[1] = setOf(t, "0/2"), function(t, "/2", "0,1/2", 0, 1), function(t, "/2", "0,1/2", 1, 0)
	long := append(slices.Repeat(hops(0, 0, 1, 1), 1<<18), hops(0, 0)...)
	if !witness.Check(s, 0, 0, long) || witness.Check(s, 1, 1, long) || !witness.Check(s, 1, 1, long[:1<<19]) {
		t.Error("a long walk is no witness, or one for another bit")
	}
	for _, i := range []int{0, 1, 1 << 17, 1<<19 - 1, 1 << 19} {
		long[i].Bit = 1 - long[i].Bit
		if witness.Check(s, 0, 0, long) {
			t.Errorf("a long list whose hop %d is wrong is a witness", i)
		}
		long[i].Bit = 1 - long[i].Bit
	}
}

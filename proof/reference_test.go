package proof_test

import (
	"math/rand/v2"
	"reflect"
	"slices"
	"strconv"
	"testing"

	"flowquery/api"
	"flowquery/bitset"
	"flowquery/fixpoint"
	"flowquery/proof"
	"flowquery/validate"
	"flowquery/witness"
)

// kinds are all kinds of analyses.
var kinds = []int{api.KindReach, api.KindLive, api.KindTaint, api.KindUninit}

// holds reports whether a bit of a valid set is a member.
func holds(s api.Set, b int) bool { return s.Words[b/64]>>(b%64)&1 == 1 }

// follows reports whether one bit follows from another one, from the definition.
func follows(f api.Transfer, from, to int) bool {
	return from == to && !holds(f.Kill, to) || slices.Contains(f.Copies, api.Copy{From: from, To: to})
}

// rightSide returns the right side of an unknown, bit by bit.
func rightSide(s api.System, values []api.Set, n int) api.Set {
	var members []int
	for b := range s.Width {
		in := holds(s.Boundary[n], b)
		for _, m := range s.Deps[n] {
			in = in || holds(s.Transfers[m].Gen, b)
			for a := range s.Width {
				in = in || holds(values[m], a) && follows(s.Transfers[m], a, b)
			}
		}
		if in {
			members = append(members, b)
		}
	}
	side, _ := bitset.Of(s.Width, members)
	return side
}

// roundsOf returns all rounds of a system up to the first one that equals the next one.
func roundsOf(s api.System) [][]api.Set {
	var values []api.Set
	for range s.Deps {
		none, _ := bitset.Empty(s.Width)
		values = append(values, none)
	}
	rounds := [][]api.Set{values}
	for {
		var next []api.Set
		for n := range s.Deps {
			next = append(next, rightSide(s, values, n))
		}
		if slices.EqualFunc(next, values, bitset.Equal) {
			return rounds
		}
		rounds, values = append(rounds, next), next
	}
}

// leastProof returns the proof of a system from the definitions: the last round, and for each bit the number of the first
// round in which it is, minus 1.
func leastProof(s api.System) api.Proof {
	rounds := roundsOf(s)
	last := rounds[len(rounds)-1]
	p := api.Proof{Values: last}
	for n, v := range last {
		var ranks []int
		for b := range s.Width {
			if holds(v, b) {
				ranks = append(ranks, slices.IndexFunc(rounds, func(round []api.Set) bool { return holds(round[n], b) })-1)
			}
		}
		p.Ranks = append(p.Ranks, ranks)
	}
	return p
}

// isSet reports whether a set is valid and has a width.
func isSet(s api.Set, width int) bool {
	if s.Width != width || len(s.Words) != (width+63)/64 {
		return false
	}
	for b := width; b < 64*len(s.Words); b++ {
		if holds(s, b) {
			return false
		}
	}
	return true
}

// rankOf returns the rank of a bit, and whether it is a member.
func rankOf(p api.Proof, n, b int) (int, bool) {
	if !holds(p.Values[n], b) {
		return 0, false
	}
	before := 0
	for a := range b {
		if holds(p.Values[n], a) {
			before++
		}
	}
	return p.Ranks[n][before], true
}

// derived reports whether a member of a value is derived, from the definition.
func derived(s api.System, p api.Proof, n, b int) bool {
	if holds(s.Boundary[n], b) {
		return true
	}
	rank, _ := rankOf(p, n, b)
	for _, m := range s.Deps[n] {
		if holds(s.Transfers[m].Gen, b) {
			return true
		}
		for a := range s.Width {
			if first, in := rankOf(p, m, a); in && first < rank && follows(s.Transfers[m], a, b) {
				return true
			}
		}
	}
	return false
}

// accepted reports whether a proof is accepted for a valid system, from the definition.
func accepted(s api.System, p api.Proof) bool {
	if len(p.Values) != len(s.Deps) || len(p.Ranks) != len(s.Deps) {
		return false
	}
	for n, v := range p.Values {
		if !isSet(v, s.Width) || len(p.Ranks[n]) != bitset.Count(v) || slices.ContainsFunc(p.Ranks[n], func(rank int) bool { return rank < 0 || rank > api.MaxCounter }) {
			return false
		}
	}
	for n, v := range p.Values {
		if side := rightSide(s, p.Values, n); !bitset.Subset(side, v) {
			return false
		}
		for b := range s.Width {
			if holds(v, b) && !derived(s, p, n, b) {
				return false
			}
		}
	}
	return true
}

// checkSame compares Check with the definition, and returns whether the proof is accepted.
func checkSame(t *testing.T, s api.System, p api.Proof) bool {
	t.Helper()
	want := api.OK
	if !accepted(s, p) {
		want = api.ErrRefused
	}
	if got := proof.Check(s, p); got != want {
		t.Fatalf("Check of %v and %v is %v, want %v", s, p, got, want)
	}
	return want == api.OK
}

// checkLeast checks the proof of a system, and returns it.
func checkLeast(t *testing.T, s api.System) api.Proof {
	t.Helper()
	want := leastProof(s)
	got, err := proof.Make(s)
	if err != api.OK || !equal(got, want) {
		t.Fatalf("the proof of %v is %s, %v, want %s", s, textOf(got), err, textOf(want))
	}
	if !checkSame(t, s, got) {
		t.Fatalf("the proof %s of %v is not accepted", textOf(got), s)
	}
	if least, _, err := fixpoint.Solve(s); err != api.OK || !slices.EqualFunc(got.Values, least, bitset.Equal) {
		t.Fatalf("the proof %s of %v has other values than the least solution %v", textOf(got), s, least)
	}
	return got
}

// checkToggles checks that a bit that is added to or removed from a value of an accepted proof makes it unacceptable.
func checkToggles(t *testing.T, s api.System, p api.Proof, ranks ...int) {
	t.Helper()
	for n, v := range p.Values {
		for b := range s.Width {
			i, in := slices.BinarySearch(bitset.Members(v), b)
			for _, rank := range ranks {
				q := copied(p)
				if in {
					q.Values[n], _ = bitset.Without(v, b)
					q.Ranks[n] = slices.Delete(q.Ranks[n], i, i+1)
				} else {
					q.Values[n], _ = bitset.With(v, b)
					q.Ranks[n] = slices.Insert(q.Ranks[n], i, rank)
				}
				if checkSame(t, s, q) {
					t.Fatalf("%v has the proofs %s and %s", s, textOf(p), textOf(q))
				}
			}
		}
	}
}

// numberedSystem returns the system of a width from 1 to 8 and a size whose parts are the digits of a number.
func numberedSystem(width, size int, number uint64) api.System {
	take := func(count int) uint64 {
		digits := number & (1<<count - 1)
		number >>= count
		return digits
	}
	set := func() api.Set { return api.Set{Width: width, Words: []uint64{take(width)}} }
	s := api.System{Width: width}
	for range size {
		var deps []int
		for m := range size {
			if take(1) == 1 {
				deps = append(deps, m)
			}
		}
		f := api.Transfer{Gen: set(), Kill: set()}
		for c := range width * width {
			if take(1) == 1 {
				f.Copies = append(f.Copies, api.Copy{From: c / width, To: c % width})
			}
		}
		s.Deps, s.Boundary, s.Transfers = append(s.Deps, deps), append(s.Boundary, set()), append(s.Transfers, f)
	}
	return s
}

// smallProofs returns all proofs with sets of a width from 1 to 8 and ranks below a number, which is more than 0.
func smallProofs(width, size, below int) []api.Proof {
	list := []api.Proof{{}}
	for range size {
		var longer []api.Proof
		for _, p := range list {
			for word := range uint64(1) << width {
				v := api.Set{Width: width, Words: []uint64{word}}
				for _, ranks := range allLists(bitset.Count(v), below) {
					longer = append(longer, api.Proof{Values: append(slices.Clone(p.Values), v), Ranks: append(slices.Clone(p.Ranks), ranks)})
				}
			}
		}
		list = longer
	}
	return list
}

// allLists returns all lists of a length of numbers below a number.
func allLists(length, below int) [][]int {
	lists := [][]int{nil}
	for range length {
		var longer [][]int
		for _, list := range lists {
			for number := range below {
				longer = append(longer, append(slices.Clone(list), number))
			}
		}
		lists = longer
	}
	return lists
}

// isLower reports whether no rank of a proof is above that of another proof of the same values.
func isLower(p, q api.Proof) bool {
	for n, ranks := range p.Ranks {
		for i, rank := range ranks {
			if rank > q.Ranks[n][i] {
				return false
			}
		}
	}
	return true
}

// P17.1, P17.2, and the consequences: all systems of one unknown of the widths 1 and 2 and of two unknowns of the width 1, and
// some with up to four bits, with all values and small ranks.
func TestSmallSystems(t *testing.T) {
	r := rand.New(rand.NewPCG(17, 1))
	count := 0
	for _, c := range []struct{ width, size, below, some int }{{1, 1, 3, 0}, {2, 1, 3, 0}, {1, 2, 3, 0}, {3, 1, 4, 1000}, {1, 3, 4, 1000}, {2, 2, 4, 300}, {1, 4, 4, 300}, {4, 1, 4, 300}} {
		digits := c.size * (c.size + 3*c.width + c.width*c.width)
		proofs := smallProofs(c.width, c.size, c.below)
		numbers := uint64(1) << digits
		if c.some > 0 {
			numbers = uint64(c.some)
		}
		for number := range numbers {
			if c.some > 0 {
				// Fewer bits than half of them: otherwise nearly all bits have an origin.
				number = r.Uint64() & (r.Uint64() | r.Uint64()) & (1<<digits - 1)
			}
			s := numberedSystem(c.width, c.size, number)
			least := checkLeast(t, s)
			for _, p := range proofs {
				if !checkSame(t, s, p) {
					continue
				}
				count++
				if !slices.EqualFunc(p.Values, least.Values, bitset.Equal) || !isLower(least, p) {
					t.Fatalf("%v has the proof %s, though that of Make is %s", s, textOf(p), textOf(least))
				}
			}
		}
	}
	if count < 10000 {
		t.Errorf("only %d proofs are accepted", count)
	}
}

// someSet returns a set of random members, each with a probability of one in rare.
func someSet(r *rand.Rand, width, rare int) api.Set {
	var members []int
	for b := range width {
		if r.IntN(rare) == 0 {
			members = append(members, b)
		}
	}
	s, _ := bitset.Of(width, members)
	return s
}

// someFunction returns a random function, which is mostly not canonical.
func someFunction(r *rand.Rand, width int) api.Transfer {
	f := api.Transfer{Gen: someSet(r, width, 25), Kill: someSet(r, width, 2)}
	for from := range width {
		for to := range width {
			if r.IntN(width) == 0 && len(f.Copies) < api.MaxCopies {
				f.Copies = append(f.Copies, api.Copy{From: from, To: to})
			}
		}
	}
	return f
}

// someSystem returns a valid system with random parts.
func someSystem(r *rand.Rand, width, size int) api.System {
	s := api.System{Width: width}
	each := 1 + r.IntN(2)
	for range size {
		var deps []int
		for m := range size {
			if r.IntN(size) < each {
				deps = append(deps, m)
			}
		}
		s.Deps, s.Boundary, s.Transfers = append(s.Deps, deps), append(s.Boundary, someSet(r, width, 20)), append(s.Transfers, someFunction(r, width))
	}
	return s
}

// someProof returns a proof of any values and ranks.
func someProof(r *rand.Rand, width, size int) api.Proof {
	var p api.Proof
	for range size {
		v := someSet(r, width, 1+r.IntN(4))
		var ranks []int
		for range bitset.Count(v) {
			ranks = append(ranks, r.IntN(1<<r.IntN(31)))
		}
		p.Values, p.Ranks = append(p.Values, v), append(p.Ranks, ranks)
	}
	return p
}

// changeSome makes a random change to a proof of a system.
func changeSome(r *rand.Rand, s api.System, p *api.Proof) {
	n := r.IntN(len(p.Values))
	i := r.IntN(len(p.Ranks[n]) + 1)
	if i < len(p.Ranks[n]) {
		switch r.IntN(8) {
		case 0:
			p.Ranks[n] = slices.Delete(p.Ranks[n], i, i+1)
		case 1:
			p.Ranks[n] = slices.Insert(p.Ranks[n], i, p.Ranks[n][i])
		case 2, 3, 4:
			p.Ranks[n][i] += r.IntN(5) - 2
		case 5, 6:
			p.Ranks[n][i] += r.IntN(1 << r.IntN(31))
		case 7:
			p.Ranks[n][i] -= r.IntN(1 << r.IntN(31))
		}
		return
	}
	switch r.IntN(4) {
	case 0:
		p.Values[n] = someSet(r, s.Width, 2)
	case 1:
		p.Values[n] = s.Boundary[n]
	case 2:
		p.Values, p.Ranks = slices.Delete(p.Values, n, n+1), slices.Delete(p.Ranks, n, n+1)
	case 3:
		m := r.IntN(len(p.Values))
		p.Values[n], p.Values[m], p.Ranks[n], p.Ranks[m] = p.Values[m], p.Values[n], p.Ranks[m], p.Ranks[n]
	}
}

// spread returns a proof with other ranks in the same order.
func spread(r *rand.Rand, p api.Proof) api.Proof {
	q := copied(p)
	start, factor := r.IntN(1000), 1+r.IntN(1000)
	for _, ranks := range q.Ranks {
		for i := range ranks {
			ranks[i] = start + factor*ranks[i] + r.IntN(factor)
		}
	}
	return q
}

// P17.1, P17.2, and the consequences: generated systems.
func TestGeneratedSystems(t *testing.T) {
	r := rand.New(rand.NewPCG(17, 2))
	valid, changes, most := 0, 0, 0
	for i := range 600 {
		width, size := 1+r.IntN(8), 1+r.IntN(14)
		if i%20 == 0 {
			width, size = 60+r.IntN(10), 1+r.IntN(6)
		}
		s := someSystem(r, width, size)
		least := checkLeast(t, s)
		for _, ranks := range least.Ranks {
			most = max(most, slices.Max(append(slices.Clone(ranks), 0)))
		}
		if !checkSame(t, s, spread(r, least)) {
			t.Fatalf("the proof of %v with other ranks is not accepted", s)
		}
		if i < 200 {
			checkToggles(t, s, least, 0, 1, 100, api.MaxCounter)
		}
		for range 30 {
			p := copied(least)
			for range 1 + r.IntN(2) {
				if len(p.Values) > 0 {
					changeSome(r, s, &p)
				}
			}
			changes++
			if checkSame(t, s, p) {
				valid++
			}
		}
		checkSame(t, s, someProof(r, width, size))
	}
	if valid < 1000 || changes-valid < 1000 || most < 8 {
		t.Errorf("of %d changes, %d are accepted; the highest rank is %d", changes, valid, most)
	}
}

// P17.1: a bit has a witness with one hop more than its rank.
func TestRanksOfWitnesses(t *testing.T) {
	r := rand.New(rand.NewPCG(17, 3))
	for range 60 {
		s := someSystem(r, 1+r.IntN(8), 1+r.IntN(10))
		p, _ := proof.Make(s)
		for n := range s.Deps {
			for b := range s.Width {
				rank, in := rankOf(p, n, b)
				list, found, err := witness.Find(s, n, b)
				if err != api.OK || found != in || in && len(list) != rank+1 {
					t.Fatalf("the bit %d of %d of %v has the rank %d, %v, and the witness %v", b, n, s, rank, in, list)
				}
			}
		}
	}
}

// generate returns the text of a program that is valid unless it has too many nodes.
func generate(r *rand.Rand) string {
	pick := func(list ...string) string { return list[r.IntN(len(list))] }
	variable := func() string { return pick("x", "y", "z", "m", "v"+strconv.Itoa(r.IntN(9))) }
	funcs := []string{"m", "f", "g"}[:1+r.IntN(3)]
	text := ""
	for _, f := range funcs {
		text += "func " + f + "\n"
		blocks := []string{"b0", "b1", "x", "exit", "m"}[:1+r.IntN(5)]
		for _, b := range blocks {
			text += "block " + b + "\n"
			for range r.IntN(1 + r.IntN(12)) {
				text += pick(variable()+" =", variable()+" = "+variable(), variable()+" = "+variable()+" "+variable(), "use "+variable(), "call "+pick(funcs...),
					"source "+variable(), "sink "+variable(), "sanitize "+variable()) + "\n"
			}
			text += pick("return", "goto "+pick(blocks...), "branch "+variable()+" "+pick(blocks...)+" "+pick(blocks...)) + "\n"
		}
		text += "end\n"
	}
	return text
}

// P17.1 to P17.3: all analyses of generated programs.
func TestGeneratedPrograms(t *testing.T) {
	r := rand.New(rand.NewPCG(17, 4))
	checked := 0
	for range 30 {
		p := parse(t, generate(r))
		if _, err := validate.Check(p); err != api.OK {
			continue
		}
		for _, kind := range kinds {
			s := systemOf(t, p, kind)
			least := checkLeast(t, s)
			checkBytes(t, least, bodyOf(least))
			checked++
		}
	}
	if checked < 60 {
		t.Errorf("only %d systems are checked", checked)
	}
}

// ring returns a system in which a bit goes around all unknowns before the next one follows from it, or nearly; and its ranks.
func ring(t *testing.T, size, width int) (api.System, [][]int) {
	t.Helper()
	deps := make([][]int, size)
	for n := range deps {
		deps[n] = []int{(n + size - 1) % size}
	}
	s := plain(t, width, deps...)
	s.Boundary[0] = setOf(t, "0/"+strconv.Itoa(width))
	ranks, start, first := make([][]int, size), 0, 0
	for b := range width {
		for i := range size {
			ranks[(start+i)%size] = append(ranks[(start+i)%size], first+i)
		}
		if b == width-1 {
			break
		}
		from := size - 1 - b/api.MaxCopies
		s.Transfers[from].Copies = append(s.Transfers[from].Copies, api.Copy{From: b, To: b + 1})
		start, first = (from+1)%size, ranks[from][b]+1
	}
	return s, ranks
}

// P17.1 to P17.3: the highest ranks, which nearly as many rounds lead to as there are bits.
func TestHighestRanks(t *testing.T) {
	for _, c := range []struct{ size, width int }{{1, 1}, {1, 65}, {2, 65}, {7, 66}, {api.MaxNodes, api.MaxWidth}} {
		s, ranks := ring(t, c.size, c.width)
		var want api.Proof
		for _, list := range ranks {
			all, _ := bitset.Full(c.width)
			want.Values, want.Ranks = append(want.Values, all), append(want.Ranks, list)
		}
		if c.size < 10 {
			checkLeast(t, s)
		}
		got, err := proof.Make(s)
		if err != api.OK || !equal(got, want) || proof.Check(s, got) != api.OK {
			t.Fatalf("the proof of a ring of %d unknowns and the width %d is not the expected one, or not accepted: %v", c.size, c.width, err)
		}
		checkBytes(t, got, bodyOf(got))
		if c.width > 1 {
			got.Ranks[c.size-1][c.width-1] = 0
			if proof.Check(s, got) != api.ErrRefused {
				t.Errorf("a proof of a ring of %d unknowns and the width %d with a wrong rank is not refused", c.size, c.width)
			}
		}
	}
}

// P17.1, P17.2: the limits of unknowns, dependencies, copies and width.
func TestLimits(t *testing.T) {
	all := make([]int, api.MaxNodes)
	for n := range all {
		all[n] = n
	}
	dense := slices.Repeat([][]int{all[:32]}, 32)
	wide := append(slices.Repeat([][]int{all}, 4), make([][]int, api.MaxNodes-4)...)
	few := make([][]int, api.MaxNodes)
	for n := range few {
		few[n] = []int{n / 4, n/4 + 64, n/4 + 128, n/4 + 192}
	}
	r := rand.New(rand.NewPCG(17, 5))
	for _, deps := range [][][]int{dense, wide, few} {
		s := plain(t, api.MaxWidth, deps...)
		for n := range deps {
			s.Boundary[n], s.Transfers[n] = someSet(r, api.MaxWidth, 500), someFunction(r, api.MaxWidth)
			s.Transfers[n].Gen = someSet(r, api.MaxWidth, 500)
		}
		p, err := proof.Make(s)
		least, _, _ := fixpoint.Solve(s)
		if err != api.OK || !slices.EqualFunc(p.Values, least, bitset.Equal) || proof.Check(s, p) != api.OK {
			t.Fatalf("the proof of %d unknowns is not accepted: %v", len(deps), err)
		}
		for range 20 {
			n, b := r.IntN(len(deps)), r.IntN(api.MaxWidth)
			rank, in := rankOf(p, n, b)
			if list, found, _ := witness.Find(s, n, b); found != in || in && len(list) != rank+1 {
				t.Fatalf("the bit %d of %d has the rank %d, and the witness %v", b, n, rank, list)
			}
		}
	}
	for width := range api.MaxWidth + 1 {
		s := plain(t, width, nil, []int{0, 1})
		s.Boundary[0], _ = bitset.Full(width)
		if width > 0 {
			s.Transfers[0].Kill, _ = bitset.Of(width, []int{width / 2})
		}
		p, err := proof.Make(s)
		if err != api.OK || len(p.Values) != 2 || len(p.Ranks) != 2 || !bitset.Equal(p.Values[0], s.Boundary[0]) || bitset.Count(p.Values[1]) != max(width-1, 0) || width > 0 && holds(p.Values[1], width/2) {
			t.Fatalf("the proof of the width %d is %v, %v", width, p, err)
		}
		if !slices.Equal(p.Ranks[0], make([]int, width)) || !slices.Equal(p.Ranks[1], slices.Repeat([]int{1}, max(width-1, 0))) || proof.Check(s, p) != api.OK {
			t.Fatalf("the proof of the width %d has the ranks %v, or is not accepted", width, p.Ranks)
		}
	}
	checkInvalid(t, plain(t, 1, append(slices.Clone(dense), []int{0})...), api.Proof{})
}

func copiedSet(s api.Set) api.Set { return api.Set{Width: s.Width, Words: slices.Clone(s.Words)} }

// copied returns a proof that is equal and shares no memory.
func copied(p api.Proof) api.Proof {
	var c api.Proof
	for n, v := range p.Values {
		c.Values, c.Ranks = append(c.Values, copiedSet(v)), append(c.Ranks, slices.Clone(p.Ranks[n]))
	}
	return c
}

// copiedSystem returns a system that is equal and shares no memory.
func copiedSystem(s api.System) api.System {
	c := api.System{Width: s.Width}
	for n, f := range s.Transfers {
		c.Deps = append(c.Deps, slices.Clone(s.Deps[n]))
		c.Boundary = append(c.Boundary, copiedSet(s.Boundary[n]))
		c.Transfers = append(c.Transfers, api.Transfer{Gen: copiedSet(f.Gen), Kill: copiedSet(f.Kill), Copies: slices.Clone(f.Copies)})
	}
	return c
}

// places collects the places of elements of slices, and those that are there more than once.
type places struct {
	seen   map[any]bool
	shared int
}

func addAll[T any](p *places, list []T) {
	list = list[:cap(list)]
	for i := range list {
		if p.seen[&list[i]] {
			p.shared++
		}
		p.seen[&list[i]] = true
	}
}

func (p *places) addSets(sets []api.Set) {
	addAll(p, sets)
	for _, s := range sets {
		addAll(p, s.Words)
	}
}

func (p *places) addLists(lists [][]int) {
	addAll(p, lists)
	for _, list := range lists {
		addAll(p, list)
	}
}

func (p *places) addProof(q api.Proof) {
	p.addSets(q.Values)
	p.addLists(q.Ranks)
}

func (p *places) addSystem(s api.System) {
	p.addLists(s.Deps)
	addAll(p, s.Transfers)
	for _, f := range s.Transfers {
		addAll(p, f.Gen.Words)
		addAll(p, f.Kill.Words)
		addAll(p, f.Copies)
	}
	p.addSets(s.Boundary)
}

// R2: no function modifies its arguments, and no results share memory with each other, with an argument or within themselves.
func TestMemory(t *testing.T) {
	r := rand.New(rand.NewPCG(17, 6))
	memory := places{seen: map[any]bool{}}
	for range 200 {
		s := someSystem(r, 1+r.IntN(70), 1+r.IntN(8))
		before := copiedSystem(s)
		memory.addSystem(s)
		p, _ := proof.Make(s)
		again, _ := proof.Make(s)
		memory.addProof(p)
		memory.addProof(again)
		proofBefore := copied(p)
		if proof.Check(s, p) != api.OK {
			t.Errorf("the proof %s is not accepted", textOf(p))
		}
		b, _ := proof.Encode(p)
		second, _ := proof.Encode(p)
		bytesBefore := slices.Clone(b)
		addAll(&memory, b)
		addAll(&memory, second)
		decoded, _ := proof.Decode(b)
		memory.addProof(decoded)
		proof.Checksum(b)
		if !slices.Equal(b, bytesBefore) || !reflect.DeepEqual(copied(p), proofBefore) || !reflect.DeepEqual(copiedSystem(s), before) {
			t.Errorf("the bytes %v, the proof %s or the system %v was modified", bytesBefore, textOf(proofBefore), before)
		}
	}
	if memory.shared > 0 || len(memory.seen) == 0 {
		t.Errorf("%d elements of slices are shared", memory.shared)
	}
}

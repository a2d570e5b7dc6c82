package elimination_test

import (
	"maps"
	"math"
	"math/rand/v2"
	"reflect"
	"slices"
	"strconv"
	"testing"

	"flowquery/api"
	"flowquery/bitset"
	"flowquery/elimination"
	"flowquery/equations"
	"flowquery/fixpoint"
	"flowquery/syntax"
	"flowquery/transfer"
	"flowquery/validate"
)

// setOf returns the set of a text.
func setOf(t *testing.T, text string) api.Set {
	t.Helper()
	s, err := bitset.Parse(text)
	if err != api.OK {
		t.Fatalf("Parse(%q) is %v", text, err)
	}
	return s
}

// textsOf returns the texts of sets.
func textsOf(sets []api.Set) []string {
	var texts []string
	for _, s := range sets {
		texts = append(texts, bitset.Text(s))
	}
	return texts
}

// function returns the function that generates gen, kills kill and makes the copies from, to, from, to and so on.
func function(t *testing.T, gen, kill string, copies ...int) api.Transfer {
	t.Helper()
	f := api.Transfer{Gen: setOf(t, gen), Kill: setOf(t, kill)}
	for pair := range slices.Chunk(copies, 2) {
		f.Copies = append(f.Copies, api.Copy{From: pair[0], To: pair[1]})
	}
	return f
}

// identity returns the identity of a permitted width.
func identity(t *testing.T, width int) api.Transfer {
	t.Helper()
	f, err := transfer.Identity(width)
	if err != api.OK {
		t.Fatalf("Identity(%d) is %v", width, err)
	}
	return f
}

// empties returns as many empty sets as given.
func empties(t *testing.T, width, size int) []api.Set {
	t.Helper()
	var sets []api.Set
	for range size {
		sets = append(sets, setOf(t, "/"+strconv.Itoa(width)))
	}
	return sets
}

// plain returns a web with arcs from these unknowns, whose functions are identities and whose boundaries are empty.
func plain(t *testing.T, width int, deps ...[]int) api.Web {
	t.Helper()
	w := api.Web{Width: width, Boundary: empties(t, width, len(deps)), In: make([][]api.Arc, len(deps))}
	for n, list := range deps {
		for _, m := range list {
			w.In[n] = append(w.In[n], api.Arc{From: m, F: identity(t, width)})
		}
	}
	return w
}

// sameFunction reports whether functions are equal as values.
func sameFunction(f, g api.Transfer) bool {
	return bitset.Equal(f.Gen, g.Gen) && bitset.Equal(f.Kill, g.Kill) && slices.Equal(f.Copies, g.Copies)
}

// sameWeb reports whether webs are equal as values.
func sameWeb(v, w api.Web) bool {
	sameArc := func(a, b api.Arc) bool { return a.From == b.From && sameFunction(a.F, b.F) }
	sameArcs := func(a, b []api.Arc) bool { return slices.EqualFunc(a, b, sameArc) }
	return v.Width == w.Width && slices.EqualFunc(v.Boundary, w.Boundary, bitset.Equal) && slices.EqualFunc(v.In, w.In, sameArcs)
}

// An operation returns a changed web, as Eliminate and Resolve do.
type operation func(w api.Web, n int) (api.Web, api.Errno)

// reduceOnly returns a web of which only n was eliminated by Reduce.
func reduceOnly(w api.Web, n int) (api.Web, api.Errno) {
	var keep []int
	for m := range w.In {
		if m != n {
			keep = append(keep, m)
		}
	}
	return elimination.Reduce(w, keep)
}

// checkWeb compares the web that an operation returns with a written-out one.
func checkWeb(t *testing.T, name string, do operation, w api.Web, n int, want api.Web) {
	t.Helper()
	if got, err := do(w, n); err != api.OK || !sameWeb(got, want) {
		t.Errorf("%s of %v at %d is %v, %v, want %v", name, w, n, got, err, want)
	}
}

// checkEliminate compares the web that eliminating returns with a written-out one.
func checkEliminate(t *testing.T, w api.Web, n int, want api.Web) {
	t.Helper()
	checkWeb(t, "Eliminate", elimination.Eliminate, w, n, want)
	checkWeb(t, "Reduce", reduceOnly, w, n, want)
}

// checkSolve compares the solution of a web with a written-out one.
func checkSolve(t *testing.T, w api.Web, want ...string) {
	t.Helper()
	if values, err := elimination.Solve(w); err != api.OK || !slices.Equal(textsOf(values), want) {
		t.Errorf("Solve of %v is %q, %v, want %q", w, textsOf(values), err, want)
	}
}

// checkFull checks that eliminating an unknown is ErrFull, with no other result.
func checkFull(t *testing.T, w api.Web, n int) {
	t.Helper()
	for _, do := range []operation{elimination.Eliminate, reduceOnly} {
		if got, err := do(w, n); err != api.ErrFull || !reflect.DeepEqual(got, api.Web{}) {
			t.Errorf("eliminating %d is %v, %v, want ErrFull", n, got, err)
		}
	}
	if values, err := elimination.Solve(w); n == 0 && (err != api.ErrFull || values != nil) {
		t.Errorf("Solve is %v, %v, want ErrFull", values, err)
	}
}

// checkNotFull checks that eliminating an unknown is no error.
func checkNotFull(t *testing.T, w api.Web, n int) api.Web {
	t.Helper()
	got, err := elimination.Eliminate(w, n)
	if err != api.OK {
		t.Errorf("eliminating %d is %v", n, err)
	}
	if again, err := reduceOnly(w, n); err != api.OK || !sameWeb(got, again) {
		t.Errorf("reducing %d is %v, %v, want %v", n, again, err, got)
	}
	return got
}

// P13.1: webs in which an unknown is resolved.
func TestResolve(t *testing.T) {
	w := plain(t, 3, []int{0, 1, 2}, []int{0, 1}, nil)
	w.Boundary[0], w.Boundary[1], w.Boundary[2] = setOf(t, "0/3"), setOf(t, "1/3"), setOf(t, "0,1,2/3")
	w.In[0][0].F = function(t, "/3", "0/3", 0, 1)
	w.In[0][1].F = function(t, "0/3", "1/3", 2, 0)
	w.In[0][2].F = function(t, "/3", "0,1,2/3", 2, 0)
	w.In[1][0].F = function(t, "/3", "/3", 0, 0, 1, 0)
	w.In[1][1].F = function(t, "2/3", "0,1,2/3", 1, 0)

	// Star also keeps what the function kills, and bit 1 follows from bit 0. The functions of 1 stay as they are, canonical or not.
	want := copiedWeb(w)
	want.Boundary[0] = setOf(t, "0,1/3")
	want.In[0] = []api.Arc{{From: 1, F: function(t, "0,1/3", "0,1/3")}, {From: 2, F: function(t, "/3", "0,1,2/3", 2, 0, 2, 1)}}
	checkWeb(t, "Resolve", elimination.Resolve, w, 0, want)

	// What Star generates is in Boundary, too.
	want = copiedWeb(w)
	want.Boundary[1] = setOf(t, "0,1,2/3")
	want.In[1] = []api.Arc{{From: 0, F: function(t, "2/3", "2/3", 1, 0)}}
	checkWeb(t, "Resolve", elimination.Resolve, w, 1, want)

	// Without an arc from itself, nothing changes.
	checkWeb(t, "Resolve", elimination.Resolve, w, 2, w)
	around := plain(t, 3, []int{1}, []int{0})
	around.In[0][0].F = function(t, "0/3", "/3", 1, 1, 2, 0)
	checkWeb(t, "Resolve", elimination.Resolve, around, 0, around)

	// The arc from itself can be the first, the last or the only one.
	checkWeb(t, "Resolve", elimination.Resolve, plain(t, 1, []int{0, 1}, nil), 0, plain(t, 1, []int{1}, nil))
	checkWeb(t, "Resolve", elimination.Resolve, plain(t, 1, nil, []int{0, 1}), 1, plain(t, 1, nil, []int{0}))
	checkWeb(t, "Resolve", elimination.Resolve, plain(t, 1, []int{0}), 0, plain(t, 1, nil))
}

// P13.1: webs in which an unknown is eliminated.
func TestEliminate(t *testing.T) {
	w := plain(t, 3, []int{1, 2}, []int{0, 1, 2}, []int{0})
	w.Boundary[0], w.Boundary[1], w.Boundary[2] = setOf(t, "2/3"), setOf(t, "0/3"), setOf(t, "/3")
	w.In[0][0].F = function(t, "/3", "0/3", 1, 2)
	w.In[0][1].F = function(t, "0/3", "/3", 0, 0)
	w.In[1][0].F = function(t, "/3", "2/3")
	w.In[1][1].F = function(t, "/3", "/3", 0, 1)
	w.In[1][2].F = function(t, "/3", "0,1,2/3", 2, 0)
	w.In[2][0].F = function(t, "1/3", "/3", 0, 0, 1, 1)

	// 1 is resolved: its Boundary is {0, 1}. 0 gets an arc from itself, and what it has from 2 is joined; what 2 has stays as it is.
	want := copiedWeb(w)
	want.Boundary[0], want.Boundary[1] = setOf(t, "1,2/3"), setOf(t, "0,1/3")
	want.In[1] = []api.Arc{{From: 0, F: function(t, "/3", "2/3", 0, 1)}, {From: 2, F: function(t, "/3", "0,1,2/3", 2, 0, 2, 1)}}
	want.In[0] = []api.Arc{{From: 0, F: function(t, "/3", "0,2/3", 0, 1, 0, 2, 1, 2)}, {From: 2, F: function(t, "0/3", "0/3", 2, 1)}}
	checkEliminate(t, w, 1, want)

	// 0 has no arc from itself: it stays as it is. 1 and 2 get arcs from 1 and 2, in ascending order; 1 has them already.
	want = copiedWeb(w)
	want.Boundary[1], want.Boundary[2] = setOf(t, "0/3"), setOf(t, "1,2/3")
	want.In[1] = []api.Arc{{From: 1, F: function(t, "/3", "/3", 0, 1)}, {From: 2, F: function(t, "0/3", "0,2/3")}}
	want.In[2] = []api.Arc{{From: 1, F: function(t, "1/3", "0,1/3", 1, 2)}, {From: 2, F: function(t, "0,1/3", "0,1/3")}}
	checkEliminate(t, w, 0, want)

	// 2 gives both what it has from 0: 0 itself, and 1 joined with what it has.
	want = copiedWeb(w)
	want.Boundary[0] = setOf(t, "0,2/3")
	want.In[0] = []api.Arc{{From: 0, F: function(t, "0,1/3", "0,1/3")}, w.In[0][0]}
	want.In[1] = []api.Arc{{From: 0, F: function(t, "/3", "2/3", 2, 0)}, w.In[1][1]}
	checkEliminate(t, w, 2, want)
}

// P13.1: what is left where an unknown has no arcs, or no other has an arc from it.
func TestEliminateEnds(t *testing.T) {
	// Nothing leads to 0: only its Boundary is passed on.
	w := plain(t, 2, nil, []int{0, 1}, []int{1}, []int{0})
	w.Boundary[0] = setOf(t, "0/2")
	w.In[1][0].F = function(t, "/2", "0/2", 0, 1)
	want := copiedWeb(w)
	want.In[1], want.In[3] = w.In[1][1:], nil
	want.Boundary[1], want.Boundary[3] = setOf(t, "1/2"), setOf(t, "0/2")
	checkEliminate(t, w, 0, want)
	// No other has an arc from 2 or 3; what they have stays, as it is.
	w.In[3][0].F = function(t, "0/2", "/2", 1, 0)
	checkEliminate(t, w, 2, w)
	checkEliminate(t, w, 3, w)
	// What generates does so from an empty Boundary.
	w.In[1][0].F, w.Boundary[0] = function(t, "1/2", "/2"), setOf(t, "/2")
	want.Boundary[0], want.Boundary[3] = setOf(t, "/2"), setOf(t, "0/2")
	want.In[3] = nil
	checkEliminate(t, w, 0, want)

	// An unknown alone, with and without an arc from itself.
	one := plain(t, 1, nil)
	checkEliminate(t, one, 0, one)
	checkEliminate(t, plain(t, 1, []int{0}), 0, one)
	one.Boundary[0] = setOf(t, "0/1")
	loop := plain(t, 1, []int{0})
	loop.In[0][0].F = function(t, "0/1", "0/1")
	checkEliminate(t, loop, 0, one)

	// First the one arc, then the other: "kill 0" and then "generate 0" is not "generate 0" and then "kill 0".
	line := plain(t, 1, nil, []int{0}, []int{1})
	line.In[1][0].F, line.In[2][0].F = function(t, "/1", "0/1"), function(t, "0/1", "/1")
	want = plain(t, 1, nil, []int{0}, []int{0})
	want.In[1], want.In[2][0].F, want.Boundary[2] = line.In[1], function(t, "0/1", "0/1"), setOf(t, "0/1")
	checkEliminate(t, line, 1, want)
	line.In[1][0].F, line.In[2][0].F = line.In[2][0].F, line.In[1][0].F
	want.In[1], want.In[2][0].F, want.Boundary[2] = line.In[1], function(t, "/1", "0/1"), setOf(t, "/1")
	checkEliminate(t, line, 1, want)
}

// checkReduce compares a reduced web with a written-out one.
func checkReduce(t *testing.T, w api.Web, keep []int, want api.Web) {
	t.Helper()
	if got, err := elimination.Reduce(w, keep); err != api.OK || !sameWeb(got, want) {
		t.Errorf("Reduce of %v to %v is %v, %v, want %v", w, keep, got, err, want)
	}
}

// P13.2: reduced webs, with unknowns to keep in any order and repeated.
func TestReduce(t *testing.T) {
	w := plain(t, 2, []int{1}, []int{0, 2}, []int{2, 3}, []int{2})
	w.In[0][0].F = function(t, "/2", "/2", 0, 1)
	w.In[3][0].F = function(t, "/2", "0/2", 0, 0)
	w.Boundary[3] = setOf(t, "0/2")
	for _, keep := range [][]int{{0, 1, 2, 3}, {3, 2, 1, 0}, {1, 1, 0, 3, 2, 0, 3}} {
		checkReduce(t, w, keep, w)
	}
	// Without 0 and 1; 1 is resolved after 0, so that its function from 2 copies bit 0 to bit 1, and 0 also has it.
	want := copiedWeb(w)
	grow := function(t, "/2", "/2", 0, 1)
	want.In[0], want.In[1] = []api.Arc{{From: 2, F: grow}}, []api.Arc{{From: 2, F: grow}}
	for _, keep := range [][]int{{2, 3}, {3, 2, 2, 3}} {
		checkReduce(t, w, keep, want)
	}
	// Without all but 1: 3 is resolved after 2.
	want = plain(t, 2, []int{1}, []int{1}, nil, nil)
	want.In[0][0].F, want.In[1][0].F = grow, grow
	want.Boundary[1], want.Boundary[2], want.Boundary[3] = setOf(t, "0/2"), setOf(t, "0/2"), setOf(t, "0/2")
	checkReduce(t, w, []int{1}, want)
	checkReduce(t, w, []int{1, 1}, want)
	// Without all.
	want = plain(t, 2, nil, nil, nil, nil)
	want.Boundary = []api.Set{setOf(t, "0,1/2"), setOf(t, "0,1/2"), setOf(t, "0/2"), setOf(t, "0/2")}
	checkReduce(t, w, nil, want)
	checkReduce(t, w, []int{}, want)
	checkSolve(t, w, "0,1/2", "0,1/2", "0/2", "0/2")

	// In ascending order: eliminating 1 before 0 would leave 1 with an arc from 0, and 0 with one from 2 only.
	order := plain(t, 1, []int{1}, []int{0, 2}, nil)
	checkReduce(t, order, []int{2}, plain(t, 1, []int{2}, []int{2}, nil))
	order = plain(t, 1, []int{2}, []int{0}, []int{1, 3}, nil)
	checkReduce(t, order, []int{2, 3}, plain(t, 1, []int{2}, []int{2}, []int{2, 3}, nil))
	checkReduce(t, order, []int{3}, plain(t, 1, []int{3}, []int{3}, []int{3}, nil))
}

// P13.3: solutions.
func TestSolve(t *testing.T) {
	checkSolve(t, plain(t, 2, nil), "/2")
	checkSolve(t, plain(t, 2, []int{0}), "/2")
	line := plain(t, 3, []int{1}, []int{2}, nil)
	line.Boundary[2] = setOf(t, "0,2/3")
	line.In[0][0].F = function(t, "/3", "0/3", 0, 1)
	checkSolve(t, line, "1,2/3", "0,2/3", "0,2/3")
	line.In[2] = []api.Arc{{From: 0, F: function(t, "/3", "0,1,2/3", 1, 2)}}
	line.Boundary[2] = setOf(t, "0/3")
	checkSolve(t, line, "1,2/3", "0,2/3", "0,2/3")
	for n, arcs := range line.In {
		arcs[0].F, line.Boundary[n] = function(t, "1/3", "0/3"), setOf(t, "/3")
	}
	checkSolve(t, line, "1/3", "1/3", "1/3")
}

// P13.1, P13.3: the examples of the chapter.
func TestExamples(t *testing.T) {
	chain := plain(t, 2, nil, []int{0}, []int{1})
	chain.In[1][0].F, chain.In[2][0].F = function(t, "/2", "0,1/2", 0, 1), function(t, "/2", "1/2", 1, 0)
	composed, _ := transfer.Compose(chain.In[1][0].F, chain.In[2][0].F)
	want := copiedWeb(chain)
	want.In[2] = []api.Arc{{From: 0, F: composed}}
	checkEliminate(t, chain, 1, want)

	loop := plain(t, 2, []int{0})
	loop.In[0][0].F, loop.Boundary[0] = function(t, "/2", "/2", 0, 1), setOf(t, "0/2")
	want = plain(t, 2, nil)
	want.Boundary[0] = setOf(t, "0,1/2")
	checkWeb(t, "Resolve", elimination.Resolve, loop, 0, want)
	checkEliminate(t, loop, 0, want)
	checkSolve(t, loop, "0,1/2")

	r := rand.New(rand.NewPCG(13, 1))
	for i := range 100 {
		size := 1 + r.IntN(20)
		w := plain(t, size, someDeps(r, size, 1+i%3)...)
		for n := range size {
			w.Boundary[n], _ = bitset.Of(size, []int{n})
		}
		var leading []string
		for n := range size {
			s, _ := bitset.Of(size, leadingTo(w, n))
			leading = append(leading, bitset.Text(s))
		}
		checkSolve(t, w, leading...)
	}
}

// leadingTo returns all unknowns that lead to n, and n itself.
func leadingTo(w api.Web, n int) []int {
	list := []int{n}
	for i := 0; i < len(list); i++ {
		for _, arc := range w.In[list[i]] {
			if !slices.Contains(list, arc.From) {
				list = append(list, arc.From)
			}
		}
	}
	return list
}

// A relation is a function bit by bit: what it generates, and follows[from][to].
type relation struct {
	gen     []bool
	follows [][]bool
}

// bitsOf returns which bits a valid set has, from its words.
func bitsOf(s api.Set) []bool {
	bits := make([]bool, s.Width)
	for b := range bits {
		bits[b] = s.Words[b/64]>>(b%64)&1 == 1
	}
	return bits
}

// setOfBits returns the set that has these bits.
func setOfBits(bits []bool) api.Set {
	s := api.Set{Width: len(bits), Words: make([]uint64, (len(bits)+63)/64)}
	for b, has := range bits {
		if has {
			s.Words[b/64] |= 1 << (b % 64)
		}
	}
	return s
}

// relationOf returns the relation of a valid function.
func relationOf(f api.Transfer) relation {
	r := relation{gen: bitsOf(f.Gen), follows: make([][]bool, f.Gen.Width)}
	for b, killed := range bitsOf(f.Kill) {
		r.follows[b] = make([]bool, f.Gen.Width)
		r.follows[b][b] = !killed
	}
	for _, c := range f.Copies {
		r.follows[c.From][c.To] = true
	}
	return r
}

// function returns the canonical function of a relation, and whether it has at most MaxCopies copies.
func (r relation) function() (api.Transfer, bool) {
	kill := make([]bool, len(r.gen))
	f := api.Transfer{Gen: setOfBits(r.gen)}
	for from, follows := range r.follows {
		kill[from] = r.gen[from] || !follows[from]
		for to, does := range follows {
			if does && from != to && !r.gen[to] {
				f.Copies = append(f.Copies, api.Copy{From: from, To: to})
			}
		}
	}
	f.Kill = setOfBits(kill)
	return f, len(f.Copies) <= api.MaxCopies
}

// value returns the value of a relation for bits.
func (r relation) value(bits []bool) []bool {
	value := slices.Clone(r.gen)
	for from, has := range bits {
		for to, follows := range r.follows[from] {
			value[to] = value[to] || has && follows
		}
	}
	return value
}

// then returns the relation of r and then s.
func (r relation) then(s relation) relation {
	both := relation{gen: s.value(r.gen)}
	for _, follows := range r.follows {
		list := make([]bool, len(r.gen))
		for through, does := range follows {
			if !does {
				continue
			}
			for to := range list {
				list[to] = list[to] || s.follows[through][to]
			}
		}
		both.follows = append(both.follows, list)
	}
	return both
}

// joined returns the union of relations.
func (r relation) joined(s relation) relation {
	either := func(a, b []bool) []bool {
		list := slices.Clone(a)
		for i, has := range b {
			list[i] = list[i] || has
		}
		return list
	}
	both := relation{gen: either(r.gen, s.gen)}
	for b := range r.follows {
		both.follows = append(both.follows, either(r.follows[b], s.follows[b]))
	}
	return both
}

// star returns the relation of any number of times r. Each round adds something.
func (r relation) star() relation {
	all := relation{gen: make([]bool, len(r.gen)), follows: make([][]bool, len(r.gen))}
	for b := range r.gen {
		all.follows[b] = make([]bool, len(r.gen))
		all.follows[b][b] = true
	}
	for {
		next := all.joined(all.then(r))
		if reflect.DeepEqual(next, all) {
			return all
		}
		all = next
	}
}

// A definition is a web as the definitions of the chapter speak of it, and whether something in it is full.
type definition struct {
	boundary [][]bool
	in       []map[int]api.Transfer
	full     bool
}

// define returns the definition of a valid web.
func define(w api.Web) *definition {
	d := &definition{}
	for n, arcs := range w.In {
		d.boundary = append(d.boundary, bitsOf(w.Boundary[n]))
		d.in = append(d.in, map[int]api.Transfer{})
		for _, arc := range arcs {
			d.in[n][arc.From] = arc.F
		}
	}
	return d
}

// set gives n the arc from m with the function of a relation.
func (d *definition) set(n, m int, r relation) {
	f, fits := r.function()
	d.in[n][m] = f
	d.full = d.full || !fits
}

// resolve resolves n.
func (d *definition) resolve(n int) {
	own, exists := d.in[n][n]
	if !exists {
		return
	}
	star := relationOf(own).star()
	_, fits := star.function()
	d.full = d.full || !fits
	delete(d.in[n], n)
	d.boundary[n] = star.value(d.boundary[n])
	for _, m := range slices.Sorted(maps.Keys(d.in[n])) {
		d.set(n, m, relationOf(d.in[n][m]).then(star))
	}
}

// eliminate eliminates n.
func (d *definition) eliminate(n int) {
	d.resolve(n)
	arcs := 0
	for t, in := range d.in {
		if last, exists := in[n]; t != n && exists {
			d.pass(n, t, relationOf(last))
		}
		arcs += len(in)
	}
	d.full = d.full || arcs > api.MaxEdges
}

// pass removes the arc from n, with this relation, from t.
func (d *definition) pass(n, t int, last relation) {
	delete(d.in[t], n)
	for b, has := range last.value(d.boundary[n]) {
		d.boundary[t][b] = d.boundary[t][b] || has
	}
	for k, f := range d.in[n] {
		through := relationOf(f).then(last)
		_, fits := through.function()
		d.full = d.full || !fits
		if old, exists := d.in[t][k]; exists {
			through = through.joined(relationOf(old))
		}
		d.set(t, k, through)
	}
}

// web returns the web of a definition, or ErrFull.
func (d *definition) web(width int) (api.Web, api.Errno) {
	if d.full {
		return api.Web{}, api.ErrFull
	}
	w := api.Web{Width: width}
	for n, in := range d.in {
		w.Boundary = append(w.Boundary, setOfBits(d.boundary[n]))
		var arcs []api.Arc
		for _, m := range slices.Sorted(maps.Keys(in)) {
			arcs = append(arcs, api.Arc{From: m, F: in[m]})
		}
		w.In = append(w.In, arcs)
	}
	return w, api.OK
}

// checkResult compares a web and an error with those of a definition.
func checkResult(t *testing.T, name string, w, got api.Web, err api.Errno, d *definition) {
	t.Helper()
	want, wantErr := d.web(w.Width)
	if err != wantErr || !sameWeb(got, want) {
		t.Errorf("%s of %v is %v, %v, want %v, %v", name, w, got, err, want, wantErr)
	}
}

// checkAt compares Resolve and Eliminate of an unknown with the definitions. Neither changes the least solution, which is
// checked where compare is true.
func checkAt(t *testing.T, w api.Web, n int, compare bool) {
	t.Helper()
	least, _ := fixpoint.SolveWeb(w)
	resolved, err := elimination.Resolve(w, n)
	d := define(w)
	d.resolve(n)
	checkResult(t, "Resolve", w, resolved, err, d)
	if err == api.OK && compare {
		checkSolution(t, resolved, least)
	}
	eliminated, err := elimination.Eliminate(w, n)
	d = define(w)
	d.eliminate(n)
	checkResult(t, "Eliminate", w, eliminated, err, d)
	if err == api.OK && compare {
		checkSolution(t, eliminated, least)
	}
}

// checkSolution compares the least solution of a web with these values.
func checkSolution(t *testing.T, w api.Web, values []api.Set) {
	t.Helper()
	if least, err := fixpoint.SolveWeb(w); err != api.OK || !slices.EqualFunc(least, values, bitset.Equal) {
		t.Errorf("the least solution of %v is %q, %v, want %q", w, textsOf(least), err, textsOf(values))
	}
}

// checkReduced compares Reduce with the definitions, and reports whether it is full.
func checkReduced(t *testing.T, w api.Web, keep []int) bool {
	t.Helper()
	d := define(w)
	for n := range w.In {
		if !slices.Contains(keep, n) && !d.full {
			d.eliminate(n)
		}
	}
	got, err := elimination.Reduce(w, keep)
	checkResult(t, "Reduce", w, got, err, d)
	checkConsequences(t, w, keep)
	return err != api.OK
}

// checkConsequences checks that reducing leaves no arc from an unknown that is not kept, and does not change the least
// solution, which Solve returns.
func checkConsequences(t *testing.T, w api.Web, keep []int) {
	t.Helper()
	least, _ := fixpoint.SolveWeb(w)
	if got, err := elimination.Reduce(w, keep); err == api.OK {
		checkSolution(t, got, least)
		for n, arcs := range got.In {
			for _, arc := range arcs {
				if !slices.Contains(keep, arc.From) {
					t.Errorf("in %v reduced to %v, %d has an arc from %d", w, keep, n, arc.From)
				}
			}
		}
	}
	all, wantErr := elimination.Reduce(w, nil)
	values, err := elimination.Solve(w)
	if err != wantErr || !slices.EqualFunc(values, all.Boundary, bitset.Equal) || err == api.OK && !slices.EqualFunc(values, least, bitset.Equal) {
		t.Errorf("Solve of %v is %q, %v, want %q, %v, and the least solution %q", w, textsOf(values), err, textsOf(all.Boundary), wantErr, textsOf(least))
	}
}

// allFunctions returns all valid functions of a width.
func allFunctions(t *testing.T, width int) []api.Transfer {
	t.Helper()
	var list []api.Transfer
	for gen := range 1 << width {
		for kill := range 1 << width {
			for copies := range 1 << (width * width) {
				f := api.Transfer{Gen: numbered(width, gen), Kill: numbered(width, kill)}
				for i := range width * width {
					if copies>>i&1 == 1 {
						f.Copies = append(f.Copies, api.Copy{From: i / width, To: i % width})
					}
				}
				list = append(list, f)
			}
		}
	}
	return list
}

// numbered returns the set that has those of the first bits that a number has.
func numbered(width, number int) api.Set {
	bits := make([]bool, width)
	for b := range bits {
		bits[b] = number>>b&1 == 1
	}
	return setOfBits(bits)
}

// P13.1: all webs of one unknown of the width 2, and all of two unknowns of the width 1.
func TestAllWebs(t *testing.T) {
	for _, f := range allFunctions(t, 2) {
		for number := range 4 {
			checkAt(t, api.Web{Width: 2, Boundary: []api.Set{numbered(2, number)}, In: [][]api.Arc{{{From: 0, F: f}}}}, 0, true)
		}
	}
	functions := allFunctions(t, 1)
	choices := len(functions) + 1 // a function, or no arc
	for chosen := range 4 * choices * choices * choices * choices {
		w := api.Web{Width: 1, Boundary: []api.Set{numbered(1, chosen), numbered(1, chosen>>1)}, In: make([][]api.Arc, 2)}
		rest := chosen / 4
		for i := range 4 {
			if choice := rest % choices; choice > 0 {
				w.In[i/2] = append(w.In[i/2], api.Arc{From: i % 2, F: functions[choice-1]})
			}
			rest /= choices
		}
		checkAt(t, w, 0, chosen%7 == 0)
		checkAt(t, w, 1, chosen%7 == 0)
		if chosen%5 == 0 {
			checkReduced(t, w, nil)
		}
	}
}

// someSet returns a set of random members, each with a probability of one in rare.
func someSet(r *rand.Rand, width, rare int) api.Set {
	bits := make([]bool, width)
	for b := range bits {
		bits[b] = r.IntN(rare) == 0
	}
	return setOfBits(bits)
}

// someFunction returns a random function, which is mostly not canonical. It copies each bit about one time in rare.
func someFunction(r *rand.Rand, width, rare int) api.Transfer {
	f := api.Transfer{Gen: someSet(r, width, 12), Kill: someSet(r, width, 2)}
	for from := range width {
		for to := range width {
			if r.IntN(width*rare) == 0 && len(f.Copies) < api.MaxCopies {
				f.Copies = append(f.Copies, api.Copy{From: from, To: to})
			}
		}
	}
	return f
}

// someDeps returns random dependencies, of which each unknown has about as many as given.
func someDeps(r *rand.Rand, size, each int) [][]int {
	deps := make([][]int, size)
	for n := range deps {
		for m := range size {
			if r.IntN(size) < each {
				deps[n] = append(deps[n], m)
			}
		}
	}
	return deps
}

// someWeb returns a valid web with random parts.
func someWeb(r *rand.Rand, width, size, rare int) api.Web {
	w := api.Web{Width: width, In: make([][]api.Arc, size)}
	for n, deps := range someDeps(r, size, 1+r.IntN(3)) {
		w.Boundary = append(w.Boundary, someSet(r, width, 8))
		for _, m := range deps {
			w.In[n] = append(w.In[n], api.Arc{From: m, F: someFunction(r, width, rare)})
		}
	}
	return w
}

// someKeep returns some unknowns in any order, and some of them twice.
func someKeep(r *rand.Rand, size int) []int {
	keep := r.Perm(size)[:r.IntN(size+1)]
	for range r.IntN(3) * len(keep) {
		keep = append(keep, keep[r.IntN(len(keep))])
	}
	return keep
}

// P13.1 to P13.3: generated webs. Some are full, some only after some eliminations.
func TestGeneratedWebs(t *testing.T) {
	r := rand.New(rand.NewPCG(13, 2))
	full, fit := 0, 0
	for i := range 1600 {
		width, size, rare := r.IntN(9), 1+r.IntN(12), 1+r.IntN(3)
		if i%8 == 0 {
			width, size, rare = 60+r.IntN(10), 1+r.IntN(5), 1+r.IntN(6)
		}
		w := someWeb(r, width, size, rare)
		checkAt(t, w, r.IntN(size), true)
		for _, keep := range [][]int{nil, someKeep(r, size)} {
			if checkReduced(t, w, keep) {
				full++
			} else {
				fit++
			}
		}
	}
	if full < 50 || fit < 1000 {
		t.Errorf("%d webs were full, and %d not", full, fit)
	}
}

// P13.2, P13.3: webs with many unknowns and few bits, where arcs become many, too.
func TestGeneratedArcs(t *testing.T) {
	r := rand.New(rand.NewPCG(13, 3))
	full, fit := 0, 0
	for range 30 {
		w := someWeb(r, 1+r.IntN(2), 20+r.IntN(100), 2)
		if checkReduced(t, w, someKeep(r, len(w.In))) {
			full++
		} else {
			fit++
		}
	}
	if full < 5 || fit < 5 {
		t.Errorf("%d webs were full, and %d not", full, fit)
	}
}

// generate returns the text of a program that is valid unless it has too many nodes.
func generate(r *rand.Rand) string {
	pick := func(list ...string) string { return list[r.IntN(len(list))] }
	variable := func() string { return pick("x", "y", "z", "m", "v"+strconv.Itoa(r.IntN(9))) }
	funcs := []string{"m", "f", "g"}[:1+r.IntN(3)]
	text := ""
	for _, f := range funcs {
		text += "func " + f + "\n"
		blocks := []string{"b0", "b1", "x", "exit", "m"}[:1+r.IntN(5)]
		for _, b := range blocks {
			text += "block " + b + "\n"
			for range r.IntN(1 + r.IntN(20)) {
				text += pick(variable()+" =", variable()+" = "+variable(), variable()+" = "+variable()+" "+variable(), "use "+variable(), "call "+pick(funcs...),
					"source "+variable(), "sink "+variable(), "sanitize "+variable()) + "\n"
			}
			text += pick("return", "goto "+pick(blocks...), "branch "+variable()+" "+pick(blocks...)+" "+pick(blocks...)) + "\n"
		}
		text += "end\n"
	}
	return text
}

// P13.2, P13.3: all analyses of generated programs.
func TestGeneratedPrograms(t *testing.T) {
	r := rand.New(rand.NewPCG(13, 4))
	solved := 0
	for range 40 {
		text := generate(r)
		p, _, _, err := syntax.Parse(text)
		if err != api.OK {
			t.Fatalf("Parse(%q) is %v", text, err)
		}
		if _, err := validate.Check(p); err != api.OK {
			continue
		}
		for _, kind := range []int{api.KindReach, api.KindLive, api.KindTaint, api.KindUninit} {
			s, _ := equations.Of(p, kind)
			w, err := equations.Web(s)
			if err != api.OK {
				t.Fatalf("the web of the kind %d of %q is %v", kind, text, err)
			}
			checkConsequences(t, w, someKeep(r, len(w.In)))
			if _, err := elimination.Solve(w); err == api.OK {
				solved++
			}
		}
	}
	if solved < 80 {
		t.Errorf("only %d webs were solved", solved)
	}
}

// crossing returns a web with as many arcs as permitted. 0 has arcs from the unknowns 1 to sources, 1 has only one from 0, and
// the next ones, of which there are as many as given, have arcs from all of these and from 0; the other arcs are elsewhere.
// Eliminating 0 gives 1 more arcs before it takes any from the next ones.
func crossing(t *testing.T, sources, next int) api.Web {
	t.Helper()
	var list []int
	for m := range sources + 1 {
		list = append(list, m)
	}
	deps := make([][]int, api.MaxNodes)
	deps[0], deps[1] = list[1:], list[:1]
	left := api.MaxEdges - sources - 1
	for n := range next {
		deps[2+n] = list
		left -= len(list)
	}
	for n := 2 + next; left > 0; n++ {
		for m := 100; m < 110 && left > 0; m++ {
			deps[n] = append(deps[n], m)
			left--
		}
	}
	return plain(t, 1, deps...)
}

// arcsOf returns the number of arcs of a web.
func arcsOf(w api.Web) int {
	count := 0
	for _, arcs := range w.In {
		count += len(arcs)
	}
	return count
}

// P13.1, P13.2: the arcs of the resulting web are limited, not those on the way to it.
func TestArcs(t *testing.T) {
	for sources := 2; sources <= 22; sources += 5 {
		for next := sources - 3; next <= sources+1; next++ {
			if next < 0 {
				continue
			}
			w := crossing(t, sources, next)
			if arcsOf(w) != api.MaxEdges {
				t.Fatalf("the web has %d arcs", arcsOf(w))
			}
			want := api.MaxEdges + sources - 1 - next
			if want > api.MaxEdges {
				checkFull(t, w, 0)
				continue
			}
			if got := checkNotFull(t, w, 0); arcsOf(got) != want {
				t.Errorf("the web has %d arcs, want %d", arcsOf(got), want)
			}
		}
	}

	// An arc of 0 from itself is counted no more.
	w := crossing(t, 4, 2)
	checkFull(t, w, 0)
	w.In[4] = w.In[4][1:]
	w.In[0] = slices.Insert(w.In[0], 0, api.Arc{From: 0, F: identity(t, 1)})
	if got := checkNotFull(t, w, 0); arcsOf(w) != api.MaxEdges || arcsOf(got) != api.MaxEdges {
		t.Errorf("the webs have %d and %d arcs", arcsOf(w), arcsOf(got))
	}
}

// hub returns a web in which n has arcs from 1 to 39, and 51 to 90 have arcs from n.
func hub(t *testing.T, n int) api.Web {
	t.Helper()
	deps := make([][]int, 100)
	for m := 1; m < 40; m++ {
		deps[n] = append(deps[n], m)
	}
	for m := 51; m <= 90; m++ {
		deps[m] = []int{n}
	}
	return plain(t, 1, deps...)
}

// P13.2, P13.3: an elimination on the way is full, even if a later one would remove the arcs again, or if it would not be in
// another order.
func TestFullOnTheWay(t *testing.T) {
	early, late := hub(t, 0), hub(t, 50)
	checkFull(t, early, 0)
	checkFull(t, late, 50)
	var sources []int
	for m := 1; m < 40; m++ {
		sources = append(sources, m)
	}
	for _, keep := range [][]int{nil, {50, 51}, sources} {
		if !checkReduced(t, early, keep) {
			t.Errorf("eliminating 0 first is not full if %v are kept", keep)
		}
	}
	for _, keep := range [][]int{{0}, append(slices.Clone(sources), 0)} {
		if checkReduced(t, early, keep) {
			t.Errorf("without eliminating 0, it is full if %v are kept", keep)
		}
	}
	for _, keep := range [][]int{nil, {0}, {50}, sources[:10], append(slices.Clone(sources), 50)} {
		if checkReduced(t, late, keep) {
			t.Errorf("eliminating 50 last or not at all is full if %v are kept", keep)
		}
	}
	if !checkReduced(t, late, sources) {
		t.Error("eliminating 50 is not full if all that it has arcs from are kept")
	}
}

// copying returns a function of the width 256 that kills all and copies each of the bits from a to a + first - 1 to each of those
// from b to b + second - 1.
func copying(t *testing.T, a, first, b, second int) api.Transfer {
	t.Helper()
	all, _ := bitset.Full(256)
	f := api.Transfer{Gen: setOf(t, "/256"), Kill: all}
	for i := range first {
		for j := range second {
			f.Copies = append(f.Copies, api.Copy{From: a + i, To: b + j})
		}
	}
	return f
}

// P13.1, P13.2: compositions, joins and stars with MaxCopies copies, and with more.
func TestCopies(t *testing.T) {
	// Compositions, with 8 times 8 and 5 times 13 copies.
	w := plain(t, 256, []int{1}, nil, []int{0})
	w.In[0][0].F, w.In[2][0].F = copying(t, 0, 8, 64, 1), copying(t, 64, 1, 128, 8)
	if got := checkNotFull(t, w, 0); len(got.In[2]) != 1 || !sameFunction(got.In[2][0].F, copying(t, 0, 8, 128, 8)) {
		t.Errorf("the composition is %v", got.In[2])
	}
	w.In[0][0].F, w.In[2][0].F = copying(t, 0, 5, 64, 1), copying(t, 64, 1, 128, 13)
	checkFull(t, w, 0)
	// They are full even if what they are joined with generates the bits, but not if the last one generates them.
	all, _ := bitset.Full(256)
	w.In[2] = append(w.In[2], api.Arc{From: 1, F: api.Transfer{Gen: all, Kill: all}})
	checkFull(t, w, 0)
	w.In[2][0].F.Gen = setOf(t, "140/256")
	if got := checkNotFull(t, w, 0); !sameFunction(got.In[2][0].F, api.Transfer{Gen: all, Kill: all}) {
		t.Errorf("the join is %v", got.In[2])
	}

	// Joins, with 4 times 16 copies and one more, and one more again that was there.
	w = plain(t, 256, []int{1}, nil, []int{0, 1})
	w.In[0][0].F, w.In[2][0].F, w.In[2][1].F = copying(t, 0, 4, 64, 1), copying(t, 64, 1, 128, 8), copying(t, 0, 4, 136, 8)
	if got := checkNotFull(t, w, 0); !sameFunction(got.In[2][0].F, copying(t, 0, 4, 128, 16)) {
		t.Errorf("the join is %v", got.In[2])
	}
	w.In[2][1].F.Copies = append(w.In[2][1].F.Copies, api.Copy{From: 5, To: 128})
	checkFull(t, w, 0)
	w.In[2][1].F.Copies[32].From = 3
	w.In[2][1].F.Copies[32].To = 144
	checkFull(t, w, 0)
	w.In[2][1].F = copying(t, 0, 4, 135, 9)
	checkNotFull(t, w, 0)

	// Stars: 11 bits in a line have 55 copies, and there are 9 or 10 more. They are full even if no arc is left.
	loop := plain(t, 256, []int{0}, nil)
	f := &loop.In[0][0].F
	f.Copies = nil
	for b := range 10 {
		f.Copies = append(f.Copies, api.Copy{From: b, To: b + 1})
	}
	f.Copies = append(f.Copies, copying(t, 64, 3, 128, 3).Copies...)
	checkNotFull(t, loop, 0)
	f.Copies = append(f.Copies, api.Copy{From: 70, To: 71})
	checkFull(t, loop, 0)
	if got, err := elimination.Resolve(loop, 0); err != api.ErrFull || !reflect.DeepEqual(got, api.Web{}) {
		t.Errorf("resolving 0 is %v, %v", got, err)
	}
	checkNotFull(t, loop, 1)

	// Compositions with a star, which adds 64 copies to those that are there.
	loop = plain(t, 256, []int{0, 1}, nil)
	loop.In[0][0].F, loop.In[0][1].F = copying(t, 0, 8, 64, 8), copying(t, 128, 1, 129, 1)
	loop.In[0][1].F.Kill = setOf(t, "0,1,2,3,4,5,6,7/256")
	checkNotFull(t, loop, 0)
	loop.In[0][1].F.Kill = setOf(t, "/256")
	checkFull(t, loop, 0)
	if got, err := elimination.Resolve(loop, 0); err != api.ErrFull || !reflect.DeepEqual(got, api.Web{}) {
		t.Errorf("resolving 0 is %v, %v", got, err)
	}
}

// P13.1 to P13.3: webs of the largest size, in which each unknown has arcs from the four next ones, the four last ones, or the next one
// in a ring; as many arcs as permitted between few unknowns; each width; and far too many arcs.
func TestLargest(t *testing.T) {
	band, wide := make([][]int, api.MaxNodes), make([][]int, api.MaxNodes)
	for n := range api.MaxNodes {
		for m := n + 1; m <= n+4 && m < api.MaxNodes; m++ {
			band[n] = append(band[n], m)
		}
		wide[n] = []int{252, 253, 254, 255}
	}
	ring := make([][]int, api.MaxNodes)
	for n := range ring {
		ring[n] = []int{(n + 1) % api.MaxNodes}
	}
	r := rand.New(rand.NewPCG(13, 5))
	for _, deps := range [][][]int{band, wide, ring} {
		w := plain(t, api.MaxWidth, deps...)
		for n := range deps {
			w.Boundary[n] = someSet(r, api.MaxWidth, 200)
			for i := range w.In[n] {
				w.In[n][i].F.Kill = someSet(r, api.MaxWidth, 3)
				w.In[n][i].F.Copies = copying(t, 0, 1, 100, 1+r.IntN(8)).Copies
			}
		}
		if _, err := elimination.Solve(w); err != api.OK {
			t.Errorf("Solve is %v", err)
		}
		checkConsequences(t, w, []int{255, 0, 100})
		checkAt(t, w, 255, true)
		checkAt(t, w, 0, true)
	}
	dense := make([][]int, 32)
	for n := range dense {
		for m := range 32 {
			dense[n] = append(dense[n], m)
		}
	}
	w := plain(t, 3, dense...)
	w.Boundary[31] = setOf(t, "0,2/3")
	w.In[7][7].F = function(t, "/3", "0/3", 0, 1)
	checkReduced(t, w, nil)
	checkReduced(t, w, []int{5, 31})
	checkSolve(t, w, slices.Repeat([]string{"0,1,2/3"}, 32)...)
	for width := range api.MaxWidth + 1 {
		w := plain(t, width, []int{0, 1}, []int{0})
		w.Boundary[0], _ = bitset.Full(width)
		checkSolve(t, w, bitset.Text(w.Boundary[0]), bitset.Text(w.Boundary[0]))
	}
	// 255 arcs to an unknown and from it are far too many.
	star := make([][]int, api.MaxNodes)
	for n := 1; n < api.MaxNodes; n++ {
		star[0] = append(star[0], n)
		star[n] = []int{0}
	}
	w = plain(t, api.MaxWidth, star...)
	checkFull(t, w, 0)
	checkNotFull(t, w, 1)
}

// checkErrors checks what all functions say of a web, of n and of the unknowns that Reduce keeps.
func checkErrors(t *testing.T, w api.Web, n int, keep []int, want, wantReduce api.Errno) {
	t.Helper()
	for _, do := range []operation{elimination.Eliminate, elimination.Resolve} {
		if got, err := do(w, n); err != want || !reflect.DeepEqual(got, api.Web{}) {
			t.Errorf("at %d, %v is %v, %v, want the error %v", n, w, got, err, want)
		}
	}
	if got, err := elimination.Reduce(w, keep); err != wantReduce || !reflect.DeepEqual(got, api.Web{}) {
		t.Errorf("Reduce of %v to %v is %v, %v, want the error %v", w, keep, got, err, wantReduce)
	}
}

// P13.1 to P13.3, R1, R4, R5: webs that are not valid.
func TestInvalid(t *testing.T) {
	bad := api.Set{Width: 2, Words: []uint64{4}}
	for _, change := range []func(w *api.Web){
		func(w *api.Web) { *w = api.Web{} }, func(w *api.Web) { *w = api.Web{Width: 2} }, func(w *api.Web) { w.Width = 3 }, func(w *api.Web) { w.Width = -1 }, func(w *api.Web) { w.Width = 257 },
		func(w *api.Web) { w.In = w.In[:1] }, func(w *api.Web) { w.In = append(w.In, nil) }, func(w *api.Web) { w.Boundary = nil }, func(w *api.Web) { w.Boundary[1] = bad }, func(w *api.Web) { w.Boundary[0] = api.Set{} },
		func(w *api.Web) { w.In[0][1].From = 0 }, func(w *api.Web) { w.In[0][1].From = 2 }, func(w *api.Web) { w.In[0][0].From = -1 }, func(w *api.Web) { w.In[0][0].From = 1 }, func(w *api.Web) { w.In[1][0].From = math.MaxInt },
		func(w *api.Web) { w.In[1][0].F = api.Transfer{} }, func(w *api.Web) { w.In[0][1].F.Gen = bad }, func(w *api.Web) { w.In[0][1].F = function(t, "/3", "/3") }, func(w *api.Web) { w.In[0][1].F.Copies = []api.Copy{{From: -1}} },
		func(w *api.Web) { w.In[0][0], w.In[0][1] = w.In[0][1], w.In[0][0] }, func(w *api.Web) { w.Boundary = append(w.Boundary, w.Boundary[0]) },
	} {
		w := plain(t, 2, []int{0, 1}, []int{0})
		change(&w)
		for _, n := range []int{0, 1, 2, -1} {
			checkErrors(t, w, n, []int{n}, api.ErrInvalid, api.ErrInvalid)
		}
		checkErrors(t, w, 0, nil, api.ErrInvalid, api.ErrInvalid)
		if values, err := elimination.Solve(w); values != nil || err != api.ErrInvalid {
			t.Errorf("Solve of %v is %v, %v", w, values, err)
		}
	}
	all := make([]int, 33)
	for i := range all {
		all[i] = i
	}
	for _, deps := range [][][]int{make([][]int, api.MaxNodes+1), slices.Repeat([][]int{all}, 33)} {
		checkErrors(t, plain(t, 1, deps...), 0, []int{0}, api.ErrInvalid, api.ErrInvalid)
	}
}

// P13.1, P13.2, R4: numbers that are no unknowns, also where eliminating would be full.
func TestNoUnknown(t *testing.T) {
	full := plain(t, 256, []int{0, 1}, []int{0})
	for b := range 12 {
		full.In[0][0].F.Copies = append(full.In[0][0].F.Copies, api.Copy{From: b, To: b + 1})
	}
	checkFull(t, full, 0)
	for _, n := range []int{-1, 2, 255, 256, math.MaxInt, math.MinInt, math.MaxInt32 + 1} {
		for _, w := range []api.Web{full, plain(t, 2, nil, []int{0})} {
			checkErrors(t, w, n, []int{n}, api.ErrNode, api.ErrNode)
			checkErrors(t, w, n, []int{0, 1, n}, api.ErrNode, api.ErrNode)
			checkErrors(t, w, n, []int{1, n, 0}, api.ErrNode, api.ErrNode)
		}
	}
	checkErrors(t, full, 0, []int{1}, api.ErrFull, api.ErrFull)
	if _, err := elimination.Reduce(full, []int{0}); err != api.OK {
		t.Errorf("Reduce that keeps 0 is %v", err)
	}
}

// R3: a nil list and an empty one are equal.
func TestEmptyLists(t *testing.T) {
	for _, words := range [][]uint64{nil, {}} {
		set := api.Set{Words: words}
		for _, copies := range [][]api.Copy{nil, {}} {
			f := api.Transfer{Gen: set, Kill: set, Copies: copies}
			for _, arcs := range [][]api.Arc{nil, {}, {{From: 0, F: f}}} {
				w := api.Web{Boundary: []api.Set{set}, In: [][]api.Arc{arcs}}
				checkEliminate(t, w, 0, plain(t, 0, nil))
				checkWeb(t, "Resolve", elimination.Resolve, w, 0, plain(t, 0, nil))
				checkReduce(t, w, nil, plain(t, 0, nil))
				checkReduce(t, w, []int{}, plain(t, 0, nil))
				checkSolve(t, w, "/0")
			}
		}
	}
}

func copiedSet(s api.Set) api.Set { return api.Set{Width: s.Width, Words: slices.Clone(s.Words)} }

// copiedWeb returns a web that is equal and shares no memory.
func copiedWeb(w api.Web) api.Web {
	c := api.Web{Width: w.Width, In: make([][]api.Arc, len(w.In))}
	for n, arcs := range w.In {
		c.Boundary = append(c.Boundary, copiedSet(w.Boundary[n]))
		for _, a := range arcs {
			f := api.Transfer{Gen: copiedSet(a.F.Gen), Kill: copiedSet(a.F.Kill), Copies: slices.Clone(a.F.Copies)}
			c.In[n] = append(c.In[n], api.Arc{From: a.From, F: f})
		}
	}
	return c
}

// places collects the places of elements of slices, and those that are there more than once.
type places struct {
	seen   map[any]bool
	shared int
}

func addAll[T any](p *places, list []T) {
	list = list[:cap(list)]
	for i := range list {
		if p.seen[&list[i]] {
			p.shared++
		}
		p.seen[&list[i]] = true
	}
}

func (p *places) addSets(sets []api.Set) {
	addAll(p, sets)
	for _, s := range sets {
		addAll(p, s.Words)
	}
}

func (p *places) addWeb(w api.Web) {
	p.addSets(w.Boundary)
	addAll(p, w.In)
	for _, arcs := range w.In {
		addAll(p, arcs)
		for _, a := range arcs {
			addAll(p, a.F.Gen.Words)
			addAll(p, a.F.Kill.Words)
			addAll(p, a.F.Copies)
		}
	}
}

// R2: no function modifies its arguments, and no results share memory with each other, with an argument or within themselves.
func TestMemory(t *testing.T) {
	r := rand.New(rand.NewPCG(13, 6))
	found := places{seen: map[any]bool{}}
	for i := range 80 {
		w := someWeb(r, 1+r.IntN(70), 1+r.IntN(8), 1+r.IntN(20))
		if i%4 == 0 {
			w = plain(t, 3, []int{0, 1}, []int{0, 2}, nil)
		}
		n, keep := r.IntN(len(w.In)), someKeep(r, len(w.In))
		before, keepBefore := copiedWeb(w), slices.Clone(keep)
		found.addWeb(w)
		for range 2 {
			eliminated, _ := elimination.Eliminate(w, n)
			resolved, _ := elimination.Resolve(w, n)
			reduced, _ := elimination.Reduce(w, keep)
			values, _ := elimination.Solve(w)
			found.addWeb(eliminated)
			found.addWeb(resolved)
			found.addWeb(reduced)
			found.addSets(values)
		}
		if !sameWeb(w, before) || !slices.Equal(keep, keepBefore) {
			t.Errorf("the web %v or the list %v was modified", before, keepBefore)
		}
	}
	if found.shared > 0 || len(found.seen) == 0 {
		t.Errorf("%d elements of slices are shared", found.shared)
	}
}

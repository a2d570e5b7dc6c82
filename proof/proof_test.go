package proof_test

import (
	"math"
	"slices"
	"strconv"
	"strings"
	"testing"

	"flowquery/api"
	"flowquery/bitset"
	"flowquery/equations"
	"flowquery/fixpoint"
	"flowquery/proof"
	"flowquery/syntax"
	"flowquery/transfer"
)

// parse returns the program of a text that must be well formed.
func parse(t *testing.T, text string) api.Program {
	t.Helper()
	p, line, col, err := syntax.Parse(text)
	if err != api.OK {
		t.Fatalf("Parse(%q) is %v at %d, %d", text, err, line, col)
	}
	return p
}

// systemOf returns the system of an analysis of a program that must have one.
func systemOf(t *testing.T, p api.Program, kind int) api.System {
	t.Helper()
	s, err := equations.Of(p, kind)
	if err != api.OK {
		t.Fatalf("the system of the kind %d of %q is %v", kind, syntax.Inline(p), err)
	}
	return s
}

// setOf returns the set of a text.
func setOf(t *testing.T, text string) api.Set {
	t.Helper()
	s, err := bitset.Parse(text)
	if err != api.OK {
		t.Fatalf("Parse(%q) is %v", text, err)
	}
	return s
}

// function returns the function that generates gen, kills kill and makes the copies from, to, from, to and so on.
func function(t *testing.T, gen, kill string, copies ...int) api.Transfer {
	t.Helper()
	f := api.Transfer{Gen: setOf(t, gen), Kill: setOf(t, kill)}
	for pair := range slices.Chunk(copies, 2) {
		f.Copies = append(f.Copies, api.Copy{From: pair[0], To: pair[1]})
	}
	return f
}

// plain returns a system of these dependencies whose functions are identities and whose boundaries are empty.
func plain(t *testing.T, width int, deps ...[]int) api.System {
	t.Helper()
	s := api.System{Width: width, Deps: deps}
	for range deps {
		same, err := transfer.Identity(width)
		if err != api.OK {
			t.Fatalf("Identity(%d) is %v", width, err)
		}
		s.Transfers = append(s.Transfers, same)
		s.Boundary = append(s.Boundary, setOf(t, "/"+strconv.Itoa(width)))
	}
	return s
}

// proofOf returns the proof of a text: for each value, its members with their ranks, as in 0:0,3:1/5.
func proofOf(t *testing.T, text string) api.Proof {
	t.Helper()
	var p api.Proof
	for part := range strings.FieldsSeq(text) {
		list, width, _ := strings.Cut(part, "/")
		var members []string
		var ranks []int
		for item := range strings.SplitSeq(list, ",") {
			if item == "" {
				continue
			}
			member, rank, _ := strings.Cut(item, ":")
			number, err := strconv.Atoi(rank)
			if err != nil {
				t.Fatalf("the rank %q is no number", rank)
			}
			members, ranks = append(members, member), append(ranks, number)
		}
		p.Values = append(p.Values, setOf(t, strings.Join(members, ",")+"/"+width))
		p.Ranks = append(p.Ranks, ranks)
	}
	return p
}

// textOf returns the text of a proof whose values are valid, as proofOf reads it.
func textOf(p api.Proof) string {
	var parts []string
	for n, v := range p.Values {
		var items []string
		for i, b := range bitset.Members(v) {
			items = append(items, strconv.Itoa(b)+":"+strconv.Itoa(p.Ranks[n][i]))
		}
		parts = append(parts, strings.Join(items, ",")+"/"+strconv.Itoa(v.Width))
	}
	return strings.Join(parts, " ")
}

// equal reports whether two proofs are equal.
func equal(p, q api.Proof) bool {
	return slices.EqualFunc(p.Values, q.Values, bitset.Equal) && slices.EqualFunc(p.Ranks, q.Ranks, slices.Equal)
}

// checkMake compares the proof of a system with a written-out one, and checks that it is accepted.
func checkMake(t *testing.T, s api.System, want string) {
	t.Helper()
	got, err := proof.Make(s)
	if err != api.OK || !equal(got, proofOf(t, want)) {
		t.Fatalf("the proof of %v is %s, %v, want %s", s, textOf(got), err, want)
	}
	if err := proof.Check(s, got); err != api.OK {
		t.Fatalf("the proof %s of %v is %v", want, s, err)
	}
}

// checkResult compares the result of Check for a written-out proof.
func checkResult(t *testing.T, s api.System, text string, want api.Errno) {
	t.Helper()
	if got := proof.Check(s, proofOf(t, text)); got != want {
		t.Errorf("Check of %v and %s is %v, want %v", s, text, got, want)
	}
}

// P17.1 to P17.3: the examples of the chapter, and the tenth one of the document.
func TestExamples(t *testing.T) {
	s := plain(t, 2, nil)
	s.Boundary[0] = setOf(t, "1/2")
	checkMake(t, s, "1:0/2")

	s = plain(t, 1, []int{0})
	checkMake(t, s, "/1")
	for _, rank := range []string{"0", "1", "2", strconv.Itoa(api.MaxCounter)} {
		checkResult(t, s, "0:"+rank+"/1", api.ErrRefused)
	}
	full := []api.Set{setOf(t, "0/1")}
	if !fixpoint.IsSolution(s, full) {
		t.Error("the full set is no solution")
	}

	checkDecodeError(t, nil, api.ErrTruncated)
	checkDecodeError(t, []byte{}, api.ErrTruncated)
}

// P17.1: the bits of the first round.
func TestMakeOrigins(t *testing.T) {
	checkMake(t, plain(t, 0, nil), "/0")
	checkMake(t, plain(t, 3, nil, []int{0, 1}), "/3 /3")
	s := plain(t, 3, nil, []int{0}, []int{0, 1})
	s.Boundary[0], s.Boundary[2] = setOf(t, "0,2/3"), setOf(t, "0,1/3")
	checkMake(t, s, "0:0,2:0/3 0:1,2:1/3 0:0,1:0,2:1/3")
	// What an unknown generates is in those that depend on it, whether it kills it or not.
	s.Transfers[1] = function(t, "0/3", "0,2/3")
	checkMake(t, s, "0:0,2:0/3 0:1,2:1/3 0:0,1:0,2:1/3")
	s.Transfers[0] = function(t, "1,2/3", "/3")
	checkMake(t, s, "0:0,2:0/3 0:1,1:0,2:0/3 0:0,1:0,2:0/3")
	s.Boundary[0], s.Boundary[2] = setOf(t, "/3"), setOf(t, "/3")
	checkMake(t, s, "/3 1:0,2:0/3 0:0,1:0,2:0/3")
	// An unknown that nothing depends on generates nothing.
	s.Transfers[2] = function(t, "0,1,2/3", "/3")
	checkMake(t, s, "/3 1:0,2:0/3 0:0,1:0,2:0/3")
	s.Deps[2] = []int{0, 2}
	checkMake(t, s, "/3 1:0,2:0/3 0:0,1:0,2:0/3")
	s.Transfers[0] = function(t, "/3", "/3")
	checkMake(t, s, "/3 /3 0:0,1:0,2:0/3")
}

// P17.1: the bits of the later rounds.
func TestMakeRanks(t *testing.T) {
	line := plain(t, 3, nil, []int{0}, []int{1}, []int{2})
	line.Boundary[0] = setOf(t, "0/3")
	checkMake(t, line, "0:0/3 0:1/3 0:2/3 0:3/3")
	line.Transfers[1] = function(t, "/3", "0/3", 0, 1)
	checkMake(t, line, "0:0/3 0:1/3 1:2/3 1:3/3")
	line.Transfers[2] = function(t, "/3", "/3", 0, 0, 1, 2)
	checkMake(t, line, "0:0/3 0:1/3 1:2/3 1:3,2:3/3")
	line.Transfers[0] = function(t, "/3", "0/3", 0, 0, 0, 2, 1, 0)
	checkMake(t, line, "0:0/3 0:1,2:1/3 1:2,2:2/3 1:3,2:3/3")
	line.Transfers[0] = function(t, "/3", "0/3", 1, 0)
	checkMake(t, line, "0:0/3 /3 /3 /3")

	// The shortest of several ways counts, wherever it comes from.
	s := plain(t, 1, nil, []int{0}, []int{1}, []int{0, 2}, []int{2}, []int{3, 4})
	s.Boundary[0] = setOf(t, "0/1")
	checkMake(t, s, "0:0/1 0:1/1 0:2/1 0:1/1 0:3/1 0:2/1")
	s.Boundary[2] = setOf(t, "0/1")
	checkMake(t, s, "0:0/1 0:1/1 0:0/1 0:1/1 0:1/1 0:2/1")
	s.Transfers[4] = function(t, "0/1", "0/1")
	checkMake(t, s, "0:0/1 0:1/1 0:0/1 0:1/1 0:1/1 0:0/1")

	// Loops, and an unknown that depends on itself.
	loop := plain(t, 4, []int{0})
	loop.Boundary[0], loop.Transfers[0] = setOf(t, "3/4"), function(t, "/4", "0,1,2,3/4", 0, 2, 1, 0, 3, 1)
	checkMake(t, loop, "0:2,1:1,2:3,3:0/4")
	loop.Transfers[0] = function(t, "2/4", "/4", 0, 2, 1, 0, 3, 1)
	checkMake(t, loop, "0:2,1:1,2:0,3:0/4")
	loop.Boundary[0] = setOf(t, "/4")
	checkMake(t, loop, "2:0/4")
	around := plain(t, 3, []int{2}, []int{0}, []int{1})
	around.Boundary[1], around.Transfers[2] = setOf(t, "2/3"), function(t, "/3", "/3", 1, 0, 2, 1)
	checkMake(t, around, "0:5,1:2,2:2/3 0:6,1:3,2:0/3 0:7,1:4,2:1/3")
}

// P17.1: the proofs of the analyses of a program.
func TestMakeAnalyses(t *testing.T) {
	p := parse(t, "func m; block b; source x; branch x b c; block c; y = x; return; end")
	checkMake(t, systemOf(t, p, api.KindReach), "/2 0:1/2 0:0/2 0:1/2 0:2,1:0/2 0:3,1:1/2")
	checkMake(t, systemOf(t, p, api.KindLive), "/2 0:0/2 0:0/2 /2 /2 /2")
	checkMake(t, systemOf(t, p, api.KindTaint), "/2 0:1/2 0:0/2 0:1/2 0:2,1:2/2 0:3,1:3/2")
}

// P17.2: proofs with other ranks than those of Make.
func TestCheckRanks(t *testing.T) {
	s := plain(t, 2, nil, []int{0}, []int{1}, []int{0, 2})
	s.Boundary[0], s.Transfers[1] = setOf(t, "0/2"), function(t, "/2", "0/2", 0, 1)
	checkMake(t, s, "0:0/2 0:1/2 1:2/2 0:1,1:3/2")
	most := strconv.Itoa(api.MaxCounter)
	for _, text := range []string{
		"0:0/2 0:1/2 1:2/2 0:1,1:3/2",
		"0:0/2 0:7/2 1:20/2 0:300,1:21/2",
		"0:5/2 0:6/2 1:7/2 0:6,1:8/2",
		"0:0/2 0:1/2 1:2/2 0:" + most + ",1:" + most + "/2",
		"0:1073741821/2 0:1073741822/2 1:1073741823/2 0:1073741822,1:" + most + "/2",
	} {
		checkResult(t, s, text, api.OK)
	}
	// The rank that a bit is derived from must be smaller.
	for _, text := range []string{
		"0:1/2 0:1/2 1:2/2 0:2,1:3/2", "0:2/2 0:1/2 1:2/2 0:3,1:3/2", "0:0/2 0:2/2 1:2/2 0:1,1:3/2", "0:0/2 0:3/2 1:2/2 0:1,1:3/2",
		"0:0/2 0:1/2 1:2/2 0:0,1:3/2", "0:0/2 0:1/2 1:2/2 0:1,1:2/2", "0:0/2 0:1/2 1:2/2 0:1,1:1/2", "0:0/2 0:0/2 1:0/2 0:0,1:0/2",
		"0:" + most + "/2 0:" + most + "/2 1:" + most + "/2 0:" + most + ",1:" + most + "/2",
	} {
		checkResult(t, s, text, api.ErrRefused)
	}

	// A bit with an origin has any rank.
	s = plain(t, 2, nil, []int{0}, []int{0, 1})
	s.Boundary[2], s.Transfers[0], s.Transfers[1] = setOf(t, "1/2"), function(t, "0/2", "0/2"), function(t, "/2", "/2", 0, 1)
	for _, text := range []string{"/2 0:0/2 0:0,1:0/2", "/2 0:" + most + "/2 0:0,1:0/2", "/2 0:9/2 0:" + most + ",1:3/2", "/2 0:9/2 0:3,1:9/2"} {
		checkResult(t, s, text, api.OK)
	}
	s.Boundary[2] = setOf(t, "/2")
	for _, text := range []string{"/2 0:0/2 0:0,1:1/2", "/2 0:8/2 0:0,1:9/2"} {
		checkResult(t, s, text, api.OK)
	}
	for _, text := range []string{"/2 0:0/2 0:0,1:0/2", "/2 0:9/2 0:0,1:9/2", "/2 0:9/2 0:0,1:3/2"} {
		checkResult(t, s, text, api.ErrRefused)
	}
}

// P17.2: values that are above the system and not derived, with all small ranks.
func TestCheckNotDerived(t *testing.T) {
	refused := func(s api.System, before, after string) {
		t.Helper()
		for number := range 27 {
			ranks := []string{strconv.Itoa(number / 9), strconv.Itoa(number / 3 % 3), strconv.Itoa(number % 3)}
			checkResult(t, s, strings.NewReplacer("a", ranks[0], "b", ranks[1], "c", ranks[2]).Replace(after), api.ErrRefused)
		}
		checkResult(t, s, before, api.OK)
	}
	// Bits that are derived from each other or from themselves only.
	s := plain(t, 1, []int{1}, []int{0})
	refused(s, "/1 /1", "0:a/1 0:b/1")
	s = plain(t, 1, []int{2}, []int{0}, []int{1})
	refused(s, "/1 /1 /1", "0:a/1 0:b/1 0:c/1")
	s = plain(t, 2, []int{0})
	s.Transfers[0] = function(t, "/2", "0,1/2", 0, 1, 1, 0)
	refused(s, "/2", "0:a,1:b/2")
	s.Transfers[0] = function(t, "/2", "0,1/2", 0, 0)
	refused(s, "/2", "0:a/2")
	// A bit that nothing generates; that is killed; that is copied in the other direction only; that its own unknown generates.
	s = plain(t, 2, nil, []int{0})
	s.Boundary[0] = setOf(t, "0/2")
	refused(s, "0:0/2 0:1/2", "0:0/2 0:1,1:a/2")
	refused(s, "0:0/2 0:1/2", "0:0,1:a/2 0:1,1:b/2")
	s.Transfers[0] = function(t, "/2", "0/2", 1, 0)
	refused(s, "0:0/2 /2", "0:0/2 0:a/2")
	s.Transfers[0] = function(t, "/2", "0/2", 1, 1)
	refused(s, "0:0/2 /2", "0:0/2 1:a/2")
	s.Transfers[0], s.Transfers[1] = function(t, "/2", "0/2"), function(t, "0,1/2", "/2")
	refused(s, "0:0/2 /2", "0:0/2 0:a/2")
	// A bit of an unknown that it does not depend on, or that depends on it.
	s = plain(t, 1, nil, nil, []int{0, 1})
	s.Boundary[1] = setOf(t, "0/1")
	refused(s, "/1 0:0/1 0:1/1", "0:a/1 0:0/1 0:1/1")
	s.Boundary[1], s.Boundary[2] = setOf(t, "/1"), setOf(t, "0/1")
	refused(s, "/1 /1 0:0/1", "/1 0:a/1 0:b/1")
	// The rank of another bit of the same unknown does not count.
	s = plain(t, 2, nil, []int{0})
	s.Boundary[0], s.Transfers[0] = setOf(t, "1/2"), function(t, "/2", "/2", 0, 1)
	checkResult(t, s, "1:1/2 1:2/2", api.OK)
	checkResult(t, s, "1:1/2 1:1/2", api.ErrRefused)
	s.Transfers[0] = function(t, "/2", "1/2", 0, 1)
	refused(s, "1:0/2 /2", "1:a/2 1:b/2")
}

// P17.2: each of several dependencies, functions and copies is enough to derive a bit.
func TestCheckDerived(t *testing.T) {
	s := plain(t, 3, nil, nil, nil, []int{0, 1, 2})
	for n := range 3 {
		s.Boundary[n] = setOf(t, "0/3")
	}
	for _, c := range []struct {
		ranks string
		want  api.Errno
	}{{"0 9 9 1", api.OK}, {"9 0 9 1", api.OK}, {"9 9 0 1", api.OK}, {"1 1 1 1", api.ErrRefused}, {"9 9 9 1", api.ErrRefused}, {"1 2 3 2", api.OK}, {"3 2 1 2", api.OK}, {"2 2 2 1", api.ErrRefused}} {
		r := strings.Fields(c.ranks)
		checkResult(t, s, "0:"+r[0]+"/3 0:"+r[1]+"/3 0:"+r[2]+"/3 0:"+r[3]+"/3", c.want)
	}
	// A function of a later dependency generates the bit, though no rank is smaller.
	for n := range 3 {
		s.Transfers[n] = function(t, "0/3", "/3")
		checkResult(t, s, "0:9/3 0:9/3 0:9/3 0:0/3", api.OK)
		s.Transfers[n] = function(t, "/3", "/3")
	}
	// The first, the second or the last copy, or the bit that is kept.
	s = plain(t, 4, nil, []int{0})
	s.Boundary[0], s.Transfers[0] = setOf(t, "0,1,2,3/4"), function(t, "/4", "0,1,2/4", 0, 3, 1, 3, 2, 3)
	for i := range 4 {
		ranks := []string{"9", "9", "9", "9"}
		text := func() string {
			return "0:" + ranks[0] + ",1:" + ranks[1] + ",2:" + ranks[2] + ",3:" + ranks[3] + "/4 3:5/4"
		}
		checkResult(t, s, text(), api.ErrRefused)
		ranks[i] = "5"
		checkResult(t, s, text(), api.ErrRefused)
		ranks[i] = "4"
		checkResult(t, s, text(), api.OK)
	}
	s.Transfers[0].Kill = setOf(t, "0,1,2,3/4")
	checkResult(t, s, "0:9,1:9,2:9,3:4/4 3:5/4", api.ErrRefused)
	checkResult(t, s, "0:4,1:9,2:9,3:9/4 3:5/4", api.OK)
}

// P17.2: one bit that is not derived is enough, in each unknown and at each place.
func TestCheckEachBit(t *testing.T) {
	s := plain(t, 5, nil, []int{0, 1}, []int{1}, []int{2})
	s.Boundary[0], s.Boundary[3] = setOf(t, "0,1,2,4/5"), setOf(t, "3/5")
	fine, err := proof.Make(s)
	if err != api.OK {
		t.Fatalf("the proof is %v", err)
	}
	for n, v := range fine.Values {
		for i, b := range bitset.Members(v) {
			for _, rank := range []int{-1, 0, 1, 2, 3, 9} {
				p := copied(fine)
				p.Ranks[n][i] = rank
				// In each unknown but the first one, a bit comes from the one before, and the next one needs it.
				want := api.OK
				if rank < 0 || n > 0 && b != 3 && rank < n || n < 3 && rank > n {
					want = api.ErrRefused
				}
				if got := proof.Check(s, p); got != want {
					t.Errorf("with the rank %d of the bit %d of %d, the proof is %v, want %v", rank, b, n, got, want)
				}
			}
		}
	}
}

// P17.2: values that are not above the system, though all their members are derived.
func TestCheckNotAbove(t *testing.T) {
	s := plain(t, 2, nil, []int{0}, []int{1})
	s.Boundary[0], s.Transfers[1] = setOf(t, "0/2"), function(t, "1/2", "/2")
	checkResult(t, s, "0:0/2 0:1/2 0:2,1:0/2", api.OK)
	for _, text := range []string{"/2 /2 1:0/2", "0:0/2 /2 1:0/2", "0:0/2 0:1/2 1:0/2", "0:0/2 0:1/2 0:2/2", "0:0/2 0:1/2 /2", "/2 /2 /2"} {
		checkResult(t, s, text, api.ErrRefused)
	}
}

// P17.2, R1: proofs with another number of values or lists of ranks than there are unknowns, or of ranks than of members.
func TestCheckShape(t *testing.T) {
	s := plain(t, 2, nil, []int{0}, nil)
	s.Boundary[0], s.Boundary[2] = setOf(t, "0,1/2"), setOf(t, "1/2")
	fine := proofOf(t, "0:0,1:0/2 0:1,1:1/2 1:0/2")
	refused := func(name string, change func(p *api.Proof)) {
		t.Helper()
		p := copied(fine)
		change(&p)
		if err := proof.Check(s, p); err != api.ErrRefused {
			t.Errorf("%s: %v", name, err)
		}
	}
	if err := proof.Check(s, fine); err != api.OK {
		t.Fatalf("the proof is %v", err)
	}
	refused("no proof", func(p *api.Proof) { *p = api.Proof{} })
	refused("empty lists", func(p *api.Proof) { *p = api.Proof{Values: []api.Set{}, Ranks: [][]int{}} })
	refused("no values", func(p *api.Proof) { p.Values = nil })
	refused("no ranks", func(p *api.Proof) { p.Ranks = nil })
	refused("no ranks of any", func(p *api.Proof) { p.Ranks = make([][]int, 3) })
	refused("a value less", func(p *api.Proof) { p.Values = p.Values[:2] })
	refused("a list less", func(p *api.Proof) { p.Ranks = p.Ranks[:2] })
	refused("one less of both", func(p *api.Proof) { p.Values, p.Ranks = p.Values[:2], p.Ranks[:2] })
	refused("a value more", func(p *api.Proof) { p.Values = append(p.Values, setOf(t, "/2")) })
	refused("a list more", func(p *api.Proof) { p.Ranks = append(p.Ranks, nil) })
	refused("one more of both", func(p *api.Proof) { p.Values, p.Ranks = append(p.Values, setOf(t, "/2")), append(p.Ranks, nil) })
	for n := range fine.Values {
		refused("no ranks of one", func(p *api.Proof) { p.Ranks[n] = nil })
		refused("a rank less", func(p *api.Proof) { p.Ranks[n] = p.Ranks[n][:len(p.Ranks[n])-1] })
		refused("a rank more", func(p *api.Proof) { p.Ranks[n] = append(p.Ranks[n], 3) })
		for i := range fine.Ranks[n] {
			for _, rank := range []int{-1, -2, api.MaxCounter + 1, api.MaxCounter + 2, math.MinInt, math.MaxInt, math.MinInt32, math.MaxInt32} {
				refused("no counter", func(p *api.Proof) { p.Ranks[n][i] = rank })
			}
		}
		for _, bad := range []api.Set{{}, {Width: 2}, {Width: 2, Words: []uint64{7}}, {Width: 2, Words: []uint64{3, 0}}, {Width: -1}, {Width: 257, Words: make([]uint64, 5)}, {Width: math.MaxInt}, setOf(t, "0,1/3"), setOf(t, "0/1"), setOf(t, "/0"), setOf(t, "0,1/64"), setOf(t, "0,1/65")} {
			refused("another width, or no set", func(p *api.Proof) { p.Values[n] = bad })
			refused("another width, or no set, without ranks", func(p *api.Proof) { p.Values[n], p.Ranks[n] = bad, nil })
		}
	}
	// All values have the same width, which is not that of the system.
	other := plain(t, 3, nil, []int{0}, nil)
	other.Boundary[0], other.Boundary[2] = setOf(t, "0,1/3"), setOf(t, "1/3")
	if p, _ := proof.Make(other); proof.Check(other, p) != api.OK || proof.Check(s, p) != api.ErrRefused || proof.Check(other, fine) != api.ErrRefused {
		t.Error("a proof of the system of another width is accepted")
	}
	// As many values as are permitted, and one more.
	for _, size := range []int{api.MaxNodes - 1, api.MaxNodes, api.MaxNodes + 1, 1 << 16} {
		refused("many values", func(p *api.Proof) {
			p.Values, p.Ranks = slices.Repeat([]api.Set{setOf(t, "/2")}, size), make([][]int, size)
		})
	}
}

// checkInvalid checks that a system that is not valid has no proof, and that no proof is accepted or refused for it.
func checkInvalid(t *testing.T, s api.System, fine api.Proof) {
	t.Helper()
	if p, err := proof.Make(s); p.Values != nil || p.Ranks != nil || err != api.ErrInvalid {
		t.Errorf("the proof of %v is %v, %v", s, p, err)
	}
	empty := api.Proof{Values: s.Boundary, Ranks: make([][]int, len(s.Boundary))}
	for _, p := range []api.Proof{fine, empty, {}, {Values: fine.Values}, {Ranks: fine.Ranks}, {Values: []api.Set{{Width: -1}}, Ranks: [][]int{{-1}}}} {
		if err := proof.Check(s, p); err != api.ErrInvalid {
			t.Errorf("Check of %v and %v is %v", s, p, err)
		}
	}
}

// P17.1, P17.2, R1, R5: systems that are not valid.
func TestInvalid(t *testing.T) {
	bad := api.Set{Width: 2, Words: []uint64{4}}
	for _, change := range []func(s *api.System){
		func(s *api.System) { *s = api.System{} }, func(s *api.System) { *s = api.System{Width: 2} }, func(s *api.System) { s.Width = 3 }, func(s *api.System) { s.Width = -1 }, func(s *api.System) { s.Width = 257 },
		func(s *api.System) { s.Deps = s.Deps[:1] }, func(s *api.System) { s.Deps = append(s.Deps, nil) }, func(s *api.System) { s.Transfers = s.Transfers[:1] }, func(s *api.System) { s.Boundary = nil },
		func(s *api.System) { s.Deps[0] = []int{1, 0} }, func(s *api.System) { s.Deps[0] = []int{1, 1} }, func(s *api.System) { s.Deps[1] = []int{2} }, func(s *api.System) { s.Deps[1] = []int{-1} },
		func(s *api.System) { s.Deps[1] = []int{math.MaxInt} }, func(s *api.System) { s.Deps[1] = []int{math.MinInt} }, func(s *api.System) { s.Boundary[1] = bad }, func(s *api.System) { s.Boundary[0] = api.Set{} },
		func(s *api.System) { s.Boundary[0] = setOf(t, "/3") }, func(s *api.System) { s.Transfers[1] = api.Transfer{} }, func(s *api.System) { s.Transfers[0].Gen = bad }, func(s *api.System) { s.Transfers[1].Kill = bad },
		func(s *api.System) { s.Transfers[0].Copies = []api.Copy{{To: 2}} }, func(s *api.System) { s.Transfers[0].Copies = []api.Copy{{From: -1}} }, func(s *api.System) { s.Transfers[0].Copies = []api.Copy{{From: 1}, {From: 0}} },
		func(s *api.System) { s.Deps = slices.Repeat([][]int{nil}, 257) }, func(s *api.System) { s.Boundary = append(s.Boundary, s.Boundary[0]) },
	} {
		s := plain(t, 2, []int{0, 1}, []int{0})
		s.Boundary[0] = setOf(t, "0,1/2")
		checkMake(t, s, "0:0,1:0/2 0:1,1:1/2")
		fine := proofOf(t, "0:0,1:0/2 0:1,1:1/2")
		change(&s)
		checkInvalid(t, s, fine)
	}
	checkInvalid(t, plain(t, 1, make([][]int, api.MaxNodes+1)...), api.Proof{})
}

// R3: a nil list and an empty one are equal.
func TestEmptyLists(t *testing.T) {
	for _, list := range [][]int{nil, {}} {
		for _, copies := range [][]api.Copy{nil, {}} {
			s := plain(t, 1, list)
			s.Transfers[0].Copies = copies
			checkMake(t, s, "/1")
			if err := proof.Check(s, api.Proof{Values: s.Boundary, Ranks: [][]int{list}}); err != api.OK {
				t.Errorf("the proof without members is %v", err)
			}
		}
	}
	empty := plain(t, 0, []int{0})
	for _, words := range [][]uint64{nil, {}} {
		empty.Boundary[0].Words, empty.Transfers[0].Gen.Words, empty.Transfers[0].Kill.Words = words, words, words
		checkMake(t, empty, "/0")
		checkBytes(t, api.Proof{Values: empty.Boundary, Ranks: [][]int{nil}}, []byte{1, 0, 0})
	}
	for _, p := range []api.Proof{{}, {Values: []api.Set{}}, {Ranks: [][]int{}}, {Values: []api.Set{}, Ranks: [][]int{}}} {
		checkBytes(t, p, []byte{0})
	}
}

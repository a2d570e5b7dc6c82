package transfer_test

import (
	"math"
	"slices"
	"testing"

	"flowquery/api"
	"flowquery/bitset"
	"flowquery/transfer"
)

// widths are the permitted widths that the tests try beside those for which they try all functions.
var widths = []int{0, 1, 2, 3, 5, 63, 64, 65, 127, 128, 129, 200, 255, 256}

// notPermitted are widths that no set and no function has.
var notPermitted = []int{math.MinInt, -257, -256, -64, -1, 257, 258, 320, math.MaxInt}

// bits is a set written in another way: whether each bit from 0 to the width - 1 is a member.
type bits []bool

func bitsOf(s api.Set) bits {
	b := make(bits, s.Width)
	for _, m := range bitset.Members(s) {
		b[m] = true
	}
	return b
}

func (b bits) set() api.Set {
	var members []int
	for i, in := range b {
		if in {
			members = append(members, i)
		}
	}
	s, _ := bitset.Of(len(b), members)
	return s
}

func (b bits) union(c bits) bits {
	u := slices.Clone(b)
	for i := range u {
		u[i] = b[i] || c[i]
	}
	return u
}

func (b bits) subset(c bits) bool { return slices.Equal(b.union(c), c) }

// value is t(s) as the chapter defines it.
func value(t api.Transfer, s bits) bits {
	gen, kill := bitsOf(t.Gen), bitsOf(t.Kill)
	v := make(bits, len(s))
	for b := range v {
		v[b] = gen[b] || s[b] && !kill[b]
	}
	for _, c := range t.Copies {
		if s[c.From] {
			v[c.To] = true
		}
	}
	return v
}

// closure is the union of s, t(s), t(t(s)), and so on.
func closure(t api.Transfer, s bits) bits {
	for {
		next := s.union(value(t, s))
		if slices.Equal(next, s) {
			return s
		}
		s = next
	}
}

// arguments are all sets of a small width, and the sets with no bit, one, two and all bits, and some others, of a wide
// one.
func arguments(width int) []bits {
	var list []bits
	if width <= 4 {
		for n := range 1 << width {
			s := make(bits, width)
			for b := range s {
				s[b] = n>>b&1 == 1
			}
			list = append(list, s)
		}
		return list
	}
	for b := range width {
		s := make(bits, width)
		s[b] = true
		pair := slices.Clone(s)
		pair[(b*7+3)%width] = true
		list = append(list, s, pair)
	}
	for _, in := range []func(b int) bool{
		func(b int) bool { return false }, func(b int) bool { return true }, func(b int) bool { return b%2 == 0 },
		func(b int) bool { return b%3 == 1 }, func(b int) bool { return b >= width/2 }, func(b int) bool { return b%64 == 63 || b%64 == 0 },
	} {
		s := make(bits, width)
		for b := range s {
			s[b] = in(b)
		}
		list = append(list, s)
	}
	return list
}

// canonicalOf writes a distributive function in the canonical way, with as many copies as it needs: these are known from
// its values for no bits and for single bits.
func canonicalOf(width int, f func(s bits) bits) api.Transfer {
	gen := f(make(bits, width))
	kill := slices.Clone(gen)
	t := api.Transfer{Gen: gen.set()}
	for a := range width {
		s := make(bits, width)
		s[a] = true
		for b, in := range f(s) {
			switch {
			case a == b:
				kill[b] = gen[b] || !in
			case in && !gen[b]:
				t.Copies = append(t.Copies, api.Copy{From: a, To: b})
			}
		}
	}
	t.Kill = kill.set()
	return t
}

func canonOf(t api.Transfer) api.Transfer {
	return canonicalOf(t.Gen.Width, func(s bits) bits { return value(t, s) })
}

func joinOf(f, g api.Transfer) api.Transfer {
	return canonicalOf(f.Gen.Width, func(s bits) bits { return value(f, s).union(value(g, s)) })
}

func composeOf(f, g api.Transfer) api.Transfer {
	return canonicalOf(f.Gen.Width, func(s bits) bits { return value(g, value(f, s)) })
}

func starOf(f api.Transfer) api.Transfer {
	return canonicalOf(f.Gen.Width, func(s bits) bits { return closure(f, s) })
}

func sameSet(a, b api.Set) bool { return a.Width == b.Width && slices.Equal(a.Words, b.Words) }

func same(f, g api.Transfer) bool {
	return sameSet(f.Gen, g.Gen) && sameSet(f.Kill, g.Kill) && slices.Equal(f.Copies, g.Copies)
}

func isZero(t api.Transfer) bool {
	return t.Gen.Width == 0 && t.Kill.Width == 0 && len(t.Gen.Words)+len(t.Kill.Words)+len(t.Copies) == 0
}

// expect checks the results of a call: the error and, with it, the zero function, or want.
func expect(t *testing.T, call string, got api.Transfer, err api.Errno, want api.Transfer, wantErr api.Errno) {
	t.Helper()
	switch {
	case err != wantErr:
		t.Errorf("%s: error %d, want %d", call, err, wantErr)
	case err != api.OK && !isZero(got):
		t.Errorf("%s: error %d with %v, want the zero function", call, err, got)
	case err == api.OK && !same(got, want):
		t.Errorf("%s = %v, want %v", call, got, want)
	}
}

// expectOrFull is expect where want has perhaps more copies than are permitted.
func expectOrFull(t *testing.T, call string, got api.Transfer, err api.Errno, want api.Transfer) {
	t.Helper()
	if len(want.Copies) > 64 {
		expect(t, call, got, err, api.Transfer{}, api.ErrFull)
		return
	}
	expect(t, call, got, err, want, api.OK)
}

func set(t *testing.T, width int, members ...int) api.Set {
	t.Helper()
	s, err := bitset.Of(width, members)
	if err != api.OK {
		t.Fatalf("no set of the width %d has the members %v", width, members)
	}
	return s
}

// function is a function that generates gen and kills kill.
func function(t *testing.T, width int, gen, kill []int, copies ...api.Copy) api.Transfer {
	t.Helper()
	return api.Transfer{Gen: set(t, width, gen...), Kill: set(t, width, kill...), Copies: copies}
}

// line has n copies, of each bit from the first one on to the next.
func line(first, n int) []api.Copy {
	var copies []api.Copy
	for b := range n {
		copies = append(copies, api.Copy{From: first + b, To: first + b + 1})
	}
	return copies
}

// circle is a line of n - 1 copies and one back.
func circle(first, n int) []api.Copy {
	return append(line(first, n-1), api.Copy{From: first + n - 1, To: first})
}

// pairs has n copies that do not meet: of each second bit from the first one on to the next.
func pairs(first, n int) []api.Copy {
	var copies []api.Copy
	for i := range n {
		copies = append(copies, api.Copy{From: first + 2*i, To: first + 2*i + 1})
	}
	return copies
}

// fan has n copies of one bit to the bits from the first one on.
func fan(from, first, n int) []api.Copy {
	var copies []api.Copy
	for i := range n {
		copies = append(copies, api.Copy{From: from, To: first + i})
	}
	return copies
}

// funnel has n copies of the bits from the first one on to one bit.
func funnel(first, n, to int) []api.Copy {
	var copies []api.Copy
	for i := range n {
		copies = append(copies, api.Copy{From: first + i, To: to})
	}
	return copies
}

// ascending sorts copies by From and then by To, without repeated ones, and leaves out those that are not of the width,
// and those beyond the 64th.
func ascending(width int, copies []api.Copy) []api.Copy {
	var list []api.Copy
	for from := range width {
		for to := range width {
			if len(list) < 64 && slices.Contains(copies, api.Copy{From: from, To: to}) {
				list = append(list, api.Copy{From: from, To: to})
			}
		}
	}
	return list
}

// functions are valid functions of a width: every kind of sets that are generated and killed, with every kind of copies.
func functions(width int) []api.Transfer {
	last := width - 1
	copies := [][]api.Copy{
		nil, {{From: 0, To: 0}}, {{From: last, To: last}}, {{From: 0, To: last}}, {{From: last, To: 0}}, {{From: 0, To: 1}, {From: 1, To: 2}},
		{{From: 0, To: 0}, {From: 0, To: 1}, {From: 1, To: 0}, {From: 1, To: 1}}, line(0, 3), line(last-10, 10), line(0, 64), circle(0, 3),
		circle(60, 6), circle(0, 9), pairs(0, 64), fan(0, 0, 64), fan(last, 1, 30), funnel(0, 64, last), funnel(1, 30, 0),
		{{From: 63, To: 64}, {From: 64, To: 63}, {From: 64, To: 64}, {From: 127, To: 128}, {From: 128, To: 255}, {From: 255, To: 0}},
	}
	patterns := []func(b int) bool{
		func(b int) bool { return false }, func(b int) bool { return true }, func(b int) bool { return b == 0 || b == last },
		func(b int) bool { return b%3 == 1 }, func(b int) bool { return b%64 == 63 },
	}
	var list []api.Transfer
	for i, l := range copies {
		for j := range patterns {
			gen, kill := make(bits, width), make(bits, width)
			for b := range width {
				gen[b], kill[b] = patterns[j](b), patterns[(i+2*j)%len(patterns)](b)
			}
			list = append(list, api.Transfer{Gen: gen.set(), Kill: kill.set(), Copies: ascending(width, l)})
		}
	}
	return list
}

// all are all valid functions of a small width.
func all(width int) []api.Transfer {
	sets := arguments(width)
	var list []api.Transfer
	for n := range 1 << (width * width) {
		var copies []api.Copy
		for i := range width * width {
			if n>>i&1 == 1 {
				copies = append(copies, api.Copy{From: i / width, To: i % width})
			}
		}
		for _, gen := range sets {
			for _, kill := range sets {
				list = append(list, api.Transfer{Gen: gen.set(), Kill: kill.set(), Copies: copies})
			}
		}
	}
	return list
}

// eachPair calls check for all pairs of functions of the widths 0 to 2, for some of the width 3, and for some pairs of
// functions of the other widths.
func eachPair(check func(f, g api.Transfer)) {
	for width := range 3 {
		for _, f := range all(width) {
			for _, g := range all(width) {
				check(f, g)
			}
		}
	}
	list := all(3)
	every(list, 397, func(f api.Transfer) { every(list, 411, func(g api.Transfer) { check(f, g) }) })
	for _, width := range widths[4:] {
		list := functions(width)
		every(list, 4, func(f api.Transfer) { every(list, 11, func(g api.Transfer) { check(f, g) }) })
	}
}

func every(list []api.Transfer, step int, check func(f api.Transfer)) {
	for i := 0; i < len(list); i += step {
		check(list[i])
	}
}

// each calls check for all functions of the widths 0 to 3, and for functions of the other widths.
func each(check func(f api.Transfer)) {
	for width := range 4 {
		every(all(width), 1, check)
	}
	for _, width := range widths[4:] {
		every(functions(width), 1, check)
	}
}

// invalid are functions that are not valid.
func invalid(t *testing.T) []api.Transfer {
	list := []api.Transfer{
		{Gen: set(t, 5), Kill: set(t, 6)}, {Gen: set(t, 6), Kill: set(t, 5)}, {Gen: set(t, 0), Kill: set(t, 1)}, {Gen: set(t, 256), Kill: set(t, 255)},
		{Gen: set(t, 5)}, {Kill: set(t, 5)},
		function(t, 0, nil, nil, api.Copy{}), function(t, 256, nil, nil, pairs(0, 65)...), function(t, 200, nil, nil, line(0, 65)...),
		function(t, 5, nil, nil, line(0, 5)...), function(t, 256, nil, nil, line(200, 56)...),
	}
	for _, s := range []api.Set{
		{Width: 5}, {Width: 5, Words: []uint64{32}}, {Width: 5, Words: []uint64{0, 0}}, {Width: 0, Words: []uint64{0}}, {Width: 64, Words: []uint64{}},
		{Width: 65, Words: []uint64{0, 2}}, {Width: -1}, {Width: math.MinInt}, {Width: 257, Words: make([]uint64, 5)}, {Width: math.MaxInt},
	} {
		list = append(list, api.Transfer{Gen: s, Kill: s}, api.Transfer{Gen: s, Kill: set(t, 5)}, api.Transfer{Gen: set(t, 5), Kill: s})
	}
	for _, copies := range [][]api.Copy{
		{{From: 1, To: 0}, {From: 0, To: 1}}, {{From: 0, To: 1}, {From: 0, To: 0}}, {{From: 0, To: 1}, {From: 0, To: 1}}, {{}, {}},
		{{From: 0, To: 1}, {From: 1, To: 2}, {From: 1, To: 2}}, {{From: 0, To: 1}, {From: 1, To: 2}, {From: 1, To: 1}},
		{{From: 2, To: 2}, {From: 2, To: 3}, {From: 1, To: 4}}, {{From: 0, To: 4}, {From: 2, To: 1}, {From: 1, To: 2}},
	} {
		list = append(list, function(t, 5, nil, nil, copies...))
	}
	for _, b := range []int{math.MinInt, -64, -1, 5, 6, 63, 64, math.MaxInt} {
		for _, c := range []api.Copy{{From: b, To: 1}, {From: 1, To: b}, {From: b, To: b}} {
			list = append(list, function(t, 5, nil, nil, c), function(t, 5, []int{1}, []int{1}, api.Copy{}, c), function(t, 5, nil, nil, c, api.Copy{From: 4, To: 4}))
		}
	}
	return list
}

// P3.1: Valid.
func TestValid(t *testing.T) {
	each(func(f api.Transfer) {
		if !transfer.Valid(f) {
			t.Errorf("Valid(%v) = false", f)
		}
	})
	for i, f := range []api.Transfer{
		{}, {Copies: []api.Copy{}}, function(t, 256, nil, nil, pairs(0, 64)...), function(t, 65, nil, nil, line(0, 64)...), function(t, 256, nil, nil, line(192, 63)...),
		function(t, 5, nil, nil, api.Copy{From: 4, To: 4}), function(t, 1, nil, nil, api.Copy{}), function(t, 5, nil, nil, api.Copy{From: 0, To: 4}, api.Copy{From: 1, To: 0}),
		function(t, 256, nil, nil, api.Copy{From: 255, To: 0}, api.Copy{From: 255, To: 255}), function(t, 256, nil, nil, fan(255, 192, 64)...),
	} {
		if !transfer.Valid(f) {
			t.Errorf("case %d: Valid(%v) = false", i, f)
		}
	}
	for i, f := range invalid(t) {
		if transfer.Valid(f) {
			t.Errorf("case %d: Valid(%v) = true", i, f)
		}
	}
}

// P3.1: every place of a copy counts, and so does every pair of neighbours.
func TestValidInEveryPlace(t *testing.T) {
	for i := range 64 {
		for _, wrong := range []api.Copy{{From: -1, To: i}, {From: i, To: -1}, {From: 65, To: i}, {From: i, To: 65}} {
			f := function(t, 65, nil, nil, line(0, 64)...)
			f.Copies[i] = wrong
			if transfer.Valid(f) {
				t.Errorf("the copy %v at %d is valid", wrong, i)
			}
		}
		if i == 0 {
			continue
		}
		f := function(t, 65, nil, nil, line(0, 64)...)
		f.Copies[i] = f.Copies[i-1]
		if transfer.Valid(f) {
			t.Errorf("the repeated copy at %d is valid", i)
		}
		f = function(t, 65, nil, nil, line(0, 64)...)
		f.Copies[i], f.Copies[i-1] = f.Copies[i-1], f.Copies[i]
		if transfer.Valid(f) {
			t.Errorf("the copies out of order at %d are valid", i)
		}
	}
}

// P3.1: Identity.
func TestIdentity(t *testing.T) {
	for width := range 257 {
		id, err := transfer.Identity(width)
		expect(t, "Identity", id, err, function(t, width, nil, nil), api.OK)
	}
	for _, width := range notPermitted {
		id, err := transfer.Identity(width)
		expect(t, "Identity", id, err, api.Transfer{}, api.ErrRange)
	}
}

// P3.1: Identity is canonical and returns its argument.
func TestIdentityReturnsItsArgument(t *testing.T) {
	for _, width := range widths {
		id, _ := transfer.Identity(width)
		canon, err := transfer.Canon(id)
		expect(t, "Canon(Identity)", canon, err, id, api.OK)
		for _, s := range arguments(width) {
			if got, err := transfer.Apply(id, s.set()); err != api.OK || !sameSet(got, s.set()) {
				t.Errorf("Identity(%d) has the value %v, %d for %v", width, got, err, s.set())
			}
		}
	}
}

// P3.1: Follows, in a function whose bits are kept, killed, generated, and copied to themselves and to others.
func TestFollows(t *testing.T) {
	f := function(t, 6, []int{2, 5}, []int{1, 2, 3}, api.Copy{From: 0, To: 1}, api.Copy{From: 3, To: 3}, api.Copy{From: 3, To: 4}, api.Copy{From: 4, To: 2}, api.Copy{From: 5, To: 0})
	follow := []api.Copy{
		{From: 0, To: 0}, {From: 0, To: 1}, {From: 3, To: 3}, {From: 3, To: 4}, {From: 4, To: 2}, {From: 4, To: 4}, {From: 5, To: 0}, {From: 5, To: 5},
	}
	for from := -2; from < 9; from++ {
		for to := -2; to < 9; to++ {
			if got := transfer.Follows(f, from, to); got != slices.Contains(follow, api.Copy{From: from, To: to}) {
				t.Errorf("Follows(%d, %d) = %v", from, to, got)
			}
		}
	}
}

// P3.1: the bits that follow from a member, with Gen, are the value; outside the width nothing follows.
func TestFollowsEverywhere(t *testing.T) {
	each(func(f api.Transfer) {
		width, kill := f.Gen.Width, bitsOf(f.Kill)
		for from := range width {
			for to := range width {
				want := from == to && !kill[to] || slices.Contains(f.Copies, api.Copy{From: from, To: to})
				if width > 5 && from != to && !want && (from*from+to)%11 > 1 {
					continue // most of the many bits that do not follow
				}
				if got := transfer.Follows(f, from, to); got != want {
					t.Fatalf("Follows(%v, %d, %d) = %v", f, from, to, got)
				}
			}
		}
		for _, b := range []int{math.MinInt, -64, -1, width, width + 1, 256, math.MaxInt} {
			if transfer.Follows(f, b, b) || transfer.Follows(f, b, 0) || transfer.Follows(f, 0, b) {
				t.Fatalf("the bit %d, outside of %v, follows", b, f)
			}
		}
	})
}

// P3.1: nothing follows in a function that is not valid.
func TestFollowsInvalid(t *testing.T) {
	for i, f := range invalid(t) {
		for from := -1; from < 7; from++ {
			for to := -1; to < 7; to++ {
				if transfer.Follows(f, from, to) {
					t.Errorf("case %d: Follows(%v, %d, %d) = true", i, f, from, to)
				}
			}
		}
		for _, c := range f.Copies {
			if transfer.Follows(f, c.From, c.To) {
				t.Errorf("case %d: %v follows", i, c)
			}
		}
	}
}

// P3.2: values that are written out.
func TestApply(t *testing.T) {
	for i, c := range []struct {
		width           int
		gen, kill       []int
		copies          []api.Copy
		argument, value []int
	}{
		{0, nil, nil, nil, nil, nil},
		{5, nil, nil, nil, []int{1, 4}, []int{1, 4}},
		{5, []int{0}, nil, nil, []int{1, 4}, []int{0, 1, 4}},
		{5, nil, []int{1}, nil, []int{1, 4}, []int{4}},
		{5, []int{1}, []int{1}, nil, []int{4}, []int{1, 4}},
		{5, []int{1}, []int{1, 4}, nil, []int{1, 4}, []int{1}},
		{5, nil, nil, []api.Copy{{From: 1, To: 2}}, []int{1, 4}, []int{1, 2, 4}},
		{5, nil, []int{1, 2}, []api.Copy{{From: 1, To: 2}}, []int{1, 4}, []int{2, 4}},
		{5, nil, []int{1, 2}, []api.Copy{{From: 1, To: 2}}, []int{2, 4}, []int{4}},
		{5, nil, []int{1, 2}, []api.Copy{{From: 1, To: 2}, {From: 2, To: 1}}, []int{2, 4}, []int{1, 4}},
		{5, []int{1}, nil, []api.Copy{{From: 1, To: 2}}, nil, []int{1}},
		{5, nil, nil, []api.Copy{{From: 1, To: 2}, {From: 2, To: 3}}, []int{1}, []int{1, 2}},
		{5, nil, []int{3}, []api.Copy{{From: 3, To: 3}}, []int{3}, []int{3}},
		{130, []int{64}, []int{0, 63, 129}, []api.Copy{{From: 63, To: 128}, {From: 129, To: 65}}, []int{0, 1, 63, 127}, []int{1, 64, 127, 128}},
		{256, nil, []int{0, 255}, []api.Copy{{From: 0, To: 255}, {From: 255, To: 0}}, []int{255}, []int{0}},
	} {
		f := function(t, c.width, c.gen, c.kill, c.copies...)
		if got, err := transfer.Apply(f, set(t, c.width, c.argument...)); err != api.OK || !sameSet(got, set(t, c.width, c.value...)) {
			t.Errorf("case %d: Apply has the members %v and the error %d, want %v", i, bitset.Members(got), err, c.value)
		}
	}
}

// P3.2: the values of all functions, as the chapter defines them.
func TestApplyEverywhere(t *testing.T) {
	each(func(f api.Transfer) {
		for i, s := range arguments(f.Gen.Width) {
			if f.Gen.Width > 5 && i%5 != 0 {
				continue
			}
			if got, err := transfer.Apply(f, s.set()); err != api.OK || !sameSet(got, value(f, s).set()) {
				t.Fatalf("Apply(%v, %v) = %v, %d", f, s.set(), got, err)
			}
		}
	})
}

// P3.2: the errors of Apply, and their order.
func TestApplyErrors(t *testing.T) {
	check := func(f api.Transfer, s api.Set, want api.Errno) {
		t.Helper()
		if got, err := transfer.Apply(f, s); err != want || got.Width != 0 || len(got.Words) > 0 {
			t.Errorf("Apply(%v, %v) = %v, %d, want error %d", f, s, got, err, want)
		}
	}
	bad := []api.Set{{Width: 5}, {Width: 6, Words: []uint64{64}}, {Width: -1}, {Width: 257, Words: make([]uint64, 5)}}
	for _, f := range invalid(t) {
		for _, s := range append(bad, set(t, 5, 1), set(t, 6), set(t, 0), set(t, 256, 255)) {
			check(f, s, api.ErrInvalid)
		}
	}
	for _, width := range widths {
		for _, s := range bad {
			check(function(t, width, nil, nil), s, api.ErrInvalid)
		}
		for _, other := range widths {
			if other != width {
				check(function(t, width, nil, nil), set(t, other), api.ErrWidth)
			}
		}
	}
}

// P3.3: canonical functions that are written out: with what is generated and not killed, copied to itself, copied to
// what is generated, and with copies that stay.
func TestCanon(t *testing.T) {
	for i, c := range []struct{ from, want api.Transfer }{
		{api.Transfer{}, api.Transfer{}},
		{function(t, 5, nil, nil), function(t, 5, nil, nil)},
		{function(t, 5, []int{1, 2}, nil), function(t, 5, []int{1, 2}, []int{1, 2})},
		{function(t, 5, []int{1, 2}, []int{2, 3}), function(t, 5, []int{1, 2}, []int{1, 2, 3})},
		{function(t, 5, nil, []int{2}, api.Copy{From: 2, To: 2}), function(t, 5, nil, nil)},
		{function(t, 5, nil, nil, api.Copy{From: 2, To: 2}), function(t, 5, nil, nil)},
		{function(t, 5, []int{2}, []int{2}, api.Copy{From: 2, To: 2}), function(t, 5, []int{2}, []int{2})},
		{function(t, 5, []int{2}, nil, api.Copy{From: 1, To: 2}), function(t, 5, []int{2}, []int{2})},
		{function(t, 5, []int{2}, nil, api.Copy{From: 2, To: 1}), function(t, 5, []int{2}, []int{2}, api.Copy{From: 2, To: 1})},
		{function(t, 5, nil, []int{1}, api.Copy{From: 1, To: 2}), function(t, 5, nil, []int{1}, api.Copy{From: 1, To: 2})},
		{function(t, 256, nil, nil, pairs(0, 64)...), function(t, 256, nil, nil, pairs(0, 64)...)},
		{function(t, 2, []int{0}, []int{1}, api.Copy{From: 0, To: 0}, api.Copy{From: 0, To: 1}, api.Copy{From: 1, To: 0}, api.Copy{From: 1, To: 1}), function(t, 2, []int{0}, []int{0}, api.Copy{From: 0, To: 1})},
	} {
		got, err := transfer.Canon(c.from)
		if expect(t, "Canon", got, err, c.want, api.OK); t.Failed() {
			t.Fatalf("case %d", i)
		}
	}
}

// P3.3: Canon returns a function that is canonical as the chapter defines it, has the same values, and is its own
// canonical function.
func TestCanonEverywhere(t *testing.T) {
	each(func(f api.Transfer) {
		got, err := transfer.Canon(f)
		expect(t, "Canon", got, err, canonOf(f), api.OK)
		gen, kill := bitsOf(got.Gen), bitsOf(got.Kill)
		outside := func(c api.Copy) bool { return c.From == c.To || gen[c.To] }
		if !transfer.Valid(got) || !gen.subset(kill) || slices.ContainsFunc(got.Copies, outside) {
			t.Fatalf("Canon(%v) = %v is not canonical", f, got)
		}
		if f.Gen.Width <= 4 {
			for _, s := range arguments(f.Gen.Width) {
				if !slices.Equal(value(f, s), value(got, s)) {
					t.Fatalf("Canon(%v) = %v has another value for %v", f, got, s)
				}
			}
		}
		again, err := transfer.Canon(got)
		expect(t, "Canon of a canonical function", again, err, got, api.OK)
	})
}

// P3.3: two canonical functions are equal as functions exactly if they are equal as values.
func TestCanonTellsFunctionsApart(t *testing.T) {
	for width := range 3 {
		for _, f := range all(width) {
			for _, g := range all(width) {
				equal := true
				for _, s := range arguments(width) {
					equal = equal && slices.Equal(value(f, s), value(g, s))
				}
				a, _ := transfer.Canon(f)
				b, _ := transfer.Canon(g)
				if same(a, b) != equal {
					t.Fatalf("%v and %v are equal: %v, but not their canonical functions %v and %v", f, g, equal, a, b)
				}
			}
		}
	}
}

// P3.3, P3.6: functions that are not valid.
func TestInvalidAlone(t *testing.T) {
	for _, f := range invalid(t) {
		got, err := transfer.Canon(f)
		expect(t, "Canon", got, err, api.Transfer{}, api.ErrInvalid)
		got, err = transfer.Star(f)
		expect(t, "Star", got, err, api.Transfer{}, api.ErrInvalid)
	}
}

// P3.4: Same and Below, for all sets of small widths, and for enough sets of others.
func TestSameAndBelow(t *testing.T) {
	eachPair(func(f, g api.Transfer) {
		equal, below := true, true
		for _, s := range arguments(f.Gen.Width) {
			x, y := value(f, s), value(g, s)
			equal, below = equal && slices.Equal(x, y), below && x.subset(y)
		}
		if transfer.Same(f, g) != equal || transfer.Below(f, g) != below {
			t.Fatalf("%v and %v: Same is not %v or Below is not %v", f, g, equal, below)
		}
	})
}

// P3.4: a function is the same as, and below, what is written in another way; and also with as many copies as are
// permitted.
func TestSameAndBelowOfOtherWritings(t *testing.T) {
	each(func(f api.Transfer) {
		canon, _ := transfer.Canon(f)
		if !transfer.Same(f, f) || !transfer.Below(f, f) || !transfer.Same(f, canon) || !transfer.Same(canon, f) || !transfer.Below(f, canon) || !transfer.Below(canon, f) {
			t.Fatalf("%v is not the same as, or below, itself or %v", f, canon)
		}
	})
}

// P3.4: one bit of one set makes a difference.
func TestSameAndBelowOfNeighbours(t *testing.T) {
	for _, width := range widths[1:] {
		for b := range width {
			none, gen, kill := function(t, width, nil, nil), function(t, width, []int{b}, nil), function(t, width, nil, []int{b})
			copied := function(t, width, nil, nil, api.Copy{From: (b + 1) % width, To: b})
			for i, l := range [][]api.Transfer{{none, gen}, {kill, none}, {kill, gen}, {copied, gen}, {none, copied}} {
				equal := i == 4 && width == 1 // the copy of the only bit to itself is the identity
				if transfer.Same(l[0], l[1]) != equal || transfer.Same(l[1], l[0]) != equal || !transfer.Below(l[0], l[1]) || transfer.Below(l[1], l[0]) != equal {
					t.Fatalf("case %d, width %d, bit %d: Same or Below is wrong", i, width, b)
				}
			}
		}
	}
}

// P3.4: functions whose join would have too many copies are not below one another; one that generates all is above.
func TestBelowWithManyCopies(t *testing.T) {
	full, _ := bitset.Full(256)
	none := set(t, 256)
	f, g := function(t, 256, nil, nil, pairs(0, 64)...), function(t, 256, nil, nil, pairs(128, 64)...)
	one := function(t, 256, nil, nil, api.Copy{From: 255, To: 0})
	top := api.Transfer{Gen: full, Kill: none, Copies: pairs(1, 64)}
	bottom := api.Transfer{Gen: none, Kill: full}
	if transfer.Below(f, g) || transfer.Below(g, f) || transfer.Below(one, f) || transfer.Below(f, one) || transfer.Same(f, g) || transfer.Same(f, one) {
		t.Error("functions with other copies are the same or below one another")
	}
	if !transfer.Below(f, top) || !transfer.Below(g, top) || !transfer.Below(bottom, f) || !transfer.Below(bottom, top) || transfer.Below(top, f) || transfer.Below(f, bottom) {
		t.Error("the least or the greatest function is in the wrong place")
	}
}

// P3.4: functions that are not valid, or have another width.
func TestSameAndBelowOfNoPair(t *testing.T) {
	for _, f := range invalid(t) {
		for _, g := range append(invalid(t)[:3], f, function(t, 5, nil, nil), function(t, 0, nil, nil), function(t, 256, nil, nil)) {
			if transfer.Same(f, g) || transfer.Same(g, f) || transfer.Below(f, g) || transfer.Below(g, f) {
				t.Errorf("%v, which is not valid, is the same as, above or below %v", f, g)
			}
		}
	}
	for _, width := range widths {
		for _, other := range widths {
			f, g := function(t, width, nil, nil), function(t, other, nil, nil)
			if got := transfer.Same(f, g); got != (width == other) {
				t.Errorf("Same for the widths %d and %d is %v", width, other, got)
			}
			if got := transfer.Below(f, g); got != (width == other) {
				t.Errorf("Below for the widths %d and %d is %v", width, other, got)
			}
		}
	}
}

// P3.5: the values of Join and Compose, and that they are canonical.
func TestJoinAndCompose(t *testing.T) {
	eachPair(func(f, g api.Transfer) {
		got, err := transfer.Join(f, g)
		expectOrFull(t, "Join", got, err, joinOf(f, g))
		got, err = transfer.Compose(f, g)
		expectOrFull(t, "Compose", got, err, composeOf(f, g))
		if t.Failed() {
			t.Fatalf("for %v and %v", f, g)
		}
	})
}

type operation struct {
	name string
	run  func(f, g api.Transfer) (api.Transfer, api.Errno)
}

func operations() []operation {
	return []operation{{"Join", transfer.Join}, {"Compose", transfer.Compose}}
}

// P3.5: functions that are written out.
func TestJoinAndComposeWrittenOut(t *testing.T) {
	ab, bc := api.Copy{From: 0, To: 1}, api.Copy{From: 1, To: 2}
	for i, c := range []struct{ f, g, join, compose api.Transfer }{
		{function(t, 0, nil, nil), function(t, 0, nil, nil), function(t, 0, nil, nil), function(t, 0, nil, nil)},
		{function(t, 3, nil, []int{0}), function(t, 3, []int{0}, nil), function(t, 3, []int{0}, []int{0}), function(t, 3, []int{0}, []int{0})},
		{function(t, 3, []int{0}, nil), function(t, 3, nil, []int{0}), function(t, 3, []int{0}, []int{0}), function(t, 3, nil, []int{0})},
		{function(t, 3, nil, []int{0, 1}), function(t, 3, nil, []int{1, 2}), function(t, 3, nil, []int{1}), function(t, 3, nil, []int{0, 1, 2})},
		{function(t, 3, nil, nil, ab), function(t, 3, nil, nil, bc), function(t, 3, nil, nil, ab, bc), function(t, 3, nil, nil, ab, api.Copy{From: 0, To: 2}, bc)},
		{function(t, 3, nil, nil, bc), function(t, 3, nil, nil, ab), function(t, 3, nil, nil, ab, bc), function(t, 3, nil, nil, ab, bc)},
		{function(t, 3, nil, []int{1}, ab), function(t, 3, nil, []int{1}, bc), function(t, 3, nil, []int{1}, ab, bc), function(t, 3, nil, []int{1}, api.Copy{From: 0, To: 2})},
		{function(t, 3, []int{0}, nil), function(t, 3, nil, []int{0}, ab), function(t, 3, []int{0}, []int{0}, ab), function(t, 3, []int{1}, []int{0, 1})},
		{function(t, 3, nil, []int{0}, ab), function(t, 3, nil, []int{1}, api.Copy{From: 1, To: 0}), function(t, 3, nil, nil, ab, api.Copy{From: 1, To: 0}), function(t, 3, nil, []int{1}, api.Copy{From: 1, To: 0})},
		{function(t, 3, []int{1}, nil), function(t, 3, nil, nil, ab), function(t, 3, []int{1}, []int{1}), function(t, 3, []int{1}, []int{1})},
	} {
		got, err := transfer.Join(c.f, c.g)
		expect(t, "Join", got, err, c.join, api.OK)
		got, err = transfer.Compose(c.f, c.g)
		if expect(t, "Compose", got, err, c.compose, api.OK); t.Failed() {
			t.Fatalf("case %d", i)
		}
	}
}

// P3.5: as many copies as are permitted, and one more; what counts are the copies of the canonical function.
func TestJoinAndComposeFull(t *testing.T) {
	wide := func(gen []int, copies ...api.Copy) api.Transfer { return function(t, 256, gen, nil, copies...) }
	whole := func(kill ...api.Copy) api.Transfer {
		full, _ := bitset.Full(256)
		return api.Transfer{Gen: set(t, 256), Kill: full, Copies: kill}
	}
	for i, c := range []struct {
		f, g          api.Transfer
		join, compose int
	}{
		{wide(nil, pairs(0, 64)...), wide(nil), 64, 64},
		{wide(nil), wide(nil, pairs(0, 64)...), 64, 64},
		{wide(nil, pairs(0, 32)...), wide(nil, pairs(64, 32)...), 64, 64},
		{wide(nil, pairs(0, 33)...), wide(nil, pairs(66, 32)...), 65, 65},
		{wide(nil, pairs(0, 64)...), wide(nil, pairs(128, 64)...), 128, 128},
		{wide(nil, pairs(0, 64)...), wide(nil, pairs(128, 1)...), 65, 65},
		{wide(nil, pairs(128, 1)...), wide(nil, pairs(0, 64)...), 65, 65},
		{wide(nil, pairs(0, 64)...), wide(nil, pairs(0, 64)...), 64, 64},
		{wide(nil, pairs(0, 64)...), wide(nil, fan(200, 200, 1)...), 64, 64},
		{wide(nil, pairs(0, 64)...), wide([]int{1}, pairs(128, 1)...), 64, 64},
		{wide([]int{129}, pairs(0, 64)...), wide(nil, pairs(128, 1)...), 64, 64},
		{wide(nil, funnel(0, 8, 100)...), wide(nil, fan(100, 101, 6)...), 14, 62},
		{wide(nil, funnel(0, 8, 100)...), wide(nil, fan(100, 101, 7)...), 15, 71},
		{whole(funnel(0, 8, 100)...), whole(fan(100, 101, 8)...), 16, 64},
		{whole(funnel(0, 13, 100)...), whole(fan(100, 101, 5)...), 18, 65},
		{whole(funnel(0, 64, 100)...), whole(fan(100, 101, 1)...), 65, 64},
		{whole(funnel(0, 64, 100)...), whole(fan(100, 101, 2)...), 66, 128},
		{whole(funnel(0, 64, 100)...), whole(fan(100, 0, 64)...), 128, 4096 - 64},
		{whole(pairs(0, 64)...), whole(pairs(128, 64)...), 128, 0},
		{whole(funnel(0, 64, 100)...), whole(), 64, 0},
	} {
		for _, o := range []struct {
			operation
			want   api.Transfer
			copies int
		}{{operations()[0], joinOf(c.f, c.g), c.join}, {operations()[1], composeOf(c.f, c.g), c.compose}} {
			if len(o.want.Copies) != o.copies {
				t.Fatalf("case %d: %s needs %d copies, not %d", i, o.name, len(o.want.Copies), o.copies)
			}
			got, err := o.run(c.f, c.g)
			if expectOrFull(t, o.name, got, err, o.want); t.Failed() {
				t.Fatalf("case %d", i)
			}
		}
	}
}

// P3.5: the errors of Join and Compose, and their order.
func TestJoinAndComposeErrors(t *testing.T) {
	crowded := function(t, 200, nil, nil, pairs(0, 64)...)
	for _, o := range operations() {
		for _, bad := range invalid(t) {
			for _, g := range append(invalid(t)[:3], bad, function(t, 5, nil, nil), function(t, 6, nil, nil), function(t, 0, nil, nil), crowded) {
				got, err := o.run(bad, g)
				expect(t, o.name, got, err, api.Transfer{}, api.ErrInvalid)
				got, err = o.run(g, bad)
				expect(t, o.name, got, err, api.Transfer{}, api.ErrInvalid)
			}
		}
		for _, width := range widths {
			for _, other := range widths {
				want := api.ErrWidth
				if width == other {
					want = api.OK
				}
				got, err := o.run(function(t, width, nil, nil), function(t, other, nil, nil))
				expect(t, o.name, got, err, function(t, width, nil, nil), want)
			}
		}
		got, err := o.run(crowded, function(t, 201, nil, nil, pairs(1, 64)...))
		expect(t, o.name, got, err, api.Transfer{}, api.ErrWidth)
		got, err = o.run(crowded, function(t, 200, nil, nil, pairs(1, 64)...))
		expect(t, o.name, got, err, api.Transfer{}, api.ErrFull)
	}
}

// P3.6: the values of Star, and that they are canonical.
func TestStarEverywhere(t *testing.T) {
	each(func(f api.Transfer) {
		got, err := transfer.Star(f)
		expectOrFull(t, "Star", got, err, starOf(f))
		if t.Failed() {
			t.Fatalf("for %v", f)
		}
		if err == api.OK && f.Gen.Width <= 4 {
			for _, s := range arguments(f.Gen.Width) {
				if !slices.Equal(value(got, s), closure(f, s)) {
					t.Fatalf("Star(%v) = %v has another value for %v", f, got, s)
				}
			}
		}
	})
}

// P3.6: stars that are written out.
func TestStar(t *testing.T) {
	for i, c := range []struct{ f, want api.Transfer }{
		{api.Transfer{}, api.Transfer{}},
		{function(t, 5, nil, nil), function(t, 5, nil, nil)},
		{function(t, 5, nil, []int{0, 1, 2, 3, 4}), function(t, 5, nil, nil)},
		{function(t, 5, []int{1}, []int{3}), function(t, 5, []int{1}, []int{1})},
		{function(t, 5, nil, []int{1, 2}, line(1, 1)...), function(t, 5, nil, nil, line(1, 1)...)},
		{function(t, 5, nil, []int{2}, line(0, 3)...), function(t, 5, nil, nil, api.Copy{From: 0, To: 1}, api.Copy{From: 0, To: 2}, api.Copy{From: 0, To: 3}, api.Copy{From: 1, To: 2}, api.Copy{From: 1, To: 3}, api.Copy{From: 2, To: 3})},
		{function(t, 5, nil, nil, circle(0, 3)...), function(t, 5, nil, nil, api.Copy{From: 0, To: 1}, api.Copy{From: 0, To: 2}, api.Copy{From: 1, To: 0}, api.Copy{From: 1, To: 2}, api.Copy{From: 2, To: 0}, api.Copy{From: 2, To: 1})},
		{function(t, 5, nil, []int{2}, api.Copy{From: 2, To: 2}), function(t, 5, nil, nil)},
		{function(t, 5, []int{1}, []int{1}, line(0, 3)...), function(t, 5, []int{1, 2, 3}, []int{1, 2, 3})},
		{function(t, 5, []int{0}, nil, api.Copy{From: 0, To: 1}, api.Copy{From: 2, To: 1}, api.Copy{From: 2, To: 3}, api.Copy{From: 3, To: 4}), function(t, 5, []int{0, 1}, []int{0, 1}, api.Copy{From: 2, To: 3}, api.Copy{From: 2, To: 4}, api.Copy{From: 3, To: 4})},
	} {
		got, err := transfer.Star(c.f)
		if expect(t, "Star", got, err, c.want, api.OK); t.Failed() {
			t.Fatalf("case %d", i)
		}
	}
}

// P3.6: stars of chains, circles and others, by the number of copies that they need.
func TestStarFull(t *testing.T) {
	for i, c := range []struct {
		gen    []int
		copies []api.Copy
		needs  int
	}{
		{nil, line(0, 10), 55},
		{nil, line(0, 11), 66},
		{nil, line(0, 64), 65 * 64 / 2},
		{nil, circle(0, 8), 56},
		{nil, circle(0, 9), 72},
		{nil, circle(0, 64), 64 * 63},
		{nil, slices.Concat(line(0, 10), pairs(100, 9)), 64},
		{nil, slices.Concat(line(0, 10), pairs(100, 10)), 65},
		{nil, slices.Concat(circle(0, 8), pairs(100, 8)), 64},
		{nil, slices.Concat(circle(0, 8), pairs(100, 9)), 65},
		{nil, pairs(0, 64), 64},
		{nil, fan(0, 1, 64), 64},
		{nil, slices.Concat(fan(0, 1, 63), line(63, 1)), 65},
		{nil, slices.Concat(fan(0, 0, 63), line(63, 1)), 63},
		{[]int{64}, fan(0, 1, 64), 63},
		{[]int{0}, line(0, 64), 0},
		{[]int{5}, line(0, 11), 10},
		{[]int{11}, line(0, 11), 55},
		{[]int{32}, line(0, 64), 32 * 31 / 2},
		{[]int{11}, line(0, 64), 55},
		{[]int{12}, line(0, 64), 66},
		{[]int{7}, circle(0, 9), 0},
		{[]int{63}, circle(0, 64), 0},
		{[]int{200}, circle(0, 9), 72},
		{[]int{0}, slices.Concat(line(0, 40), line(100, 10)), 55},
		{[]int{0}, slices.Concat(line(0, 40), line(100, 11)), 66},
	} {
		for _, kill := range [][]int{nil, {0, 1, 2, 3, 5, 8, 63}} {
			f := function(t, 256, c.gen, kill, c.copies...)
			want := starOf(f)
			if len(want.Copies) != c.needs {
				t.Fatalf("case %d: the star needs %d copies, not %d", i, len(want.Copies), c.needs)
			}
			got, err := transfer.Star(f)
			if expectOrFull(t, "Star", got, err, want); t.Failed() {
				t.Fatalf("case %d", i)
			}
		}
	}
}

// P3.6: ErrInvalid comes before ErrFull.
func TestStarErrorsInOrder(t *testing.T) {
	f := function(t, 65, nil, nil, circle(0, 9)...)
	got, err := transfer.Star(f)
	expect(t, "Star", got, err, api.Transfer{}, api.ErrFull)
	f.Kill = set(t, 66)
	got, err = transfer.Star(f)
	expect(t, "Star", got, err, api.Transfer{}, api.ErrInvalid)
}

// calls are calls whose result is a function or, as its Gen, a set.
func calls(width int) map[string]func(f, g api.Transfer) (api.Transfer, api.Errno) {
	return map[string]func(f, g api.Transfer) (api.Transfer, api.Errno){
		"Identity": func(f, g api.Transfer) (api.Transfer, api.Errno) { return transfer.Identity(width) },
		"Canon":    func(f, g api.Transfer) (api.Transfer, api.Errno) { return transfer.Canon(f) },
		"Star":     func(f, g api.Transfer) (api.Transfer, api.Errno) { return transfer.Star(f) },
		"Join":     transfer.Join,
		"Compose":  transfer.Compose,
		"Apply": func(f, g api.Transfer) (api.Transfer, api.Errno) {
			s, err := transfer.Apply(f, g.Gen)
			return api.Transfer{Gen: s}, err
		},
		"Same, Below, Valid and Follows": func(f, g api.Transfer) (api.Transfer, api.Errno) {
			transfer.Same(f, g)
			transfer.Below(f, g)
			transfer.Valid(f)
			transfer.Follows(f, 0, 0)
			return api.Transfer{}, api.OK
		},
	}
}

func clone(f api.Transfer) api.Transfer {
	return api.Transfer{
		Gen:    api.Set{Width: f.Gen.Width, Words: slices.Clone(f.Gen.Words)},
		Kill:   api.Set{Width: f.Kill.Width, Words: slices.Clone(f.Kill.Words)},
		Copies: slices.Clone(f.Copies),
	}
}

// roomy is a copy of f whose slices have room for more, so that a call that appends to them would write there.
func roomy(f api.Transfer) api.Transfer {
	c := clone(f)
	c.Gen.Words = append(c.Gen.Words, make([]uint64, 4)...)[:len(f.Gen.Words)]
	c.Kill.Words = append(c.Kill.Words, make([]uint64, 4)...)[:len(f.Kill.Words)]
	c.Copies = append(c.Copies, make([]api.Copy, 200)...)[:len(f.Copies)]
	return c
}

// untouched reports whether c, made by roomy from f, is still as it was, in the room as well.
func untouched(c, f api.Transfer) bool {
	for _, words := range [][]uint64{c.Gen.Words, c.Kill.Words} {
		if !slices.Equal(words[len(words):len(words)+4], make([]uint64, 4)) {
			return false
		}
	}
	return same(c, f) && slices.Equal(c.Copies[len(c.Copies):len(c.Copies)+200], make([]api.Copy, 200))
}

// overwrite changes all words and copies of f.
func overwrite(f api.Transfer) {
	overwriteWords(f.Gen)
	overwriteWords(f.Kill)
	for i := range f.Copies[:cap(f.Copies)] {
		f.Copies[:cap(f.Copies)][i] = api.Copy{From: -7, To: -9}
	}
}

func overwriteWords(s api.Set) {
	words := s.Words[:cap(s.Words)]
	for i := range words {
		words[i] = ^words[i]
	}
}

// P0.1: R2. No argument is changed, and a result shares memory neither with one nor with another result.
func TestResultsAreNew(t *testing.T) {
	for _, width := range []int{0, 1, 3, 64, 130, 256} {
		list := functions(width)
		for i, f := range list {
			g := list[(i*5+1)%len(list)]
			for name, run := range calls(width) {
				a, b := roomy(f), roomy(g)
				first, err := run(a, b)
				if !untouched(a, f) || !untouched(b, g) {
					t.Fatalf("%s changes its arguments %v, %v", name, f, g)
				}
				if err != api.OK {
					continue
				}
				want := clone(first)
				second, _ := run(a, b)
				overwrite(first)
				if !untouched(a, f) || !untouched(b, g) {
					t.Fatalf("%s: the result shares memory with its arguments %v, %v", name, f, g)
				}
				if !same(second, want) {
					t.Fatalf("%s: two results share memory for %v, %v", name, f, g)
				}
				overwrite(a)
				overwrite(b)
				if !same(second, want) {
					t.Fatalf("%s: the result changes with its arguments %v, %v", name, f, g)
				}
				overwriteWords(second.Gen)
				if !sameSet(second.Kill, want.Kill) {
					t.Fatalf("%s: Gen and Kill share memory for %v, %v", name, f, g)
				}
			}
		}
	}
}

// P0.1: R3. Nil slices and empty ones are equal.
func TestNilAndEmpty(t *testing.T) {
	some := api.Transfer{Gen: api.Set{Words: []uint64{}}, Kill: api.Set{Words: []uint64{}}, Copies: []api.Copy{}}
	for _, f := range []api.Transfer{{}, some} {
		for _, g := range []api.Transfer{{}, some} {
			if !transfer.Valid(f) || !transfer.Same(f, g) || !transfer.Below(f, g) {
				t.Error("nil and empty slices are not equal")
			}
			for name, run := range calls(0) {
				got, err := run(f, g)
				expect(t, name, got, err, api.Transfer{}, api.OK)
			}
		}
	}
}

// The consequences that the chapter draws: functions are distributive, and the star of a star is the star.
func TestConsequencesForOne(t *testing.T) {
	each(func(f api.Transfer) {
		list := arguments(f.Gen.Width)
		for i, s := range list[:min(len(list), 12)] {
			r := list[(i*5+3)%len(list)]
			x, _ := transfer.Apply(f, s.union(r).set())
			y, _ := transfer.Apply(f, s.set())
			z, _ := transfer.Apply(f, r.set())
			if !sameSet(x, bitsOf(y).union(bitsOf(z)).set()) {
				t.Fatalf("%v is not distributive for %v and %v", f, s, r)
			}
		}
		star, err := transfer.Star(f)
		if err != api.OK {
			return
		}
		again, err := transfer.Star(star)
		expect(t, "Star(Star)", again, err, star, api.OK)
		if !transfer.Below(f, star) {
			t.Fatalf("%v is not below its star", f)
		}
	})
}

// The consequences that the chapter draws: Identity, Compose and Join form a semiring without the zero.
func TestSemiring(t *testing.T) {
	for width := range 4 {
		list := all(width)
		id, _ := transfer.Identity(width)
		for i, f := range list {
			g, h := list[(i*29+5)%len(list)], list[(i*53+17)%len(list)]
			canon, _ := transfer.Canon(f)
			for _, l := range [][2]api.Transfer{
				{compose(f, id), canon}, {compose(id, f), canon}, {join(f, f), canon}, {join(f, g), join(g, f)}, {join(join(f, g), h), join(f, join(g, h))},
				{compose(compose(f, g), h), compose(f, compose(g, h))}, {compose(f, join(g, h)), join(compose(f, g), compose(f, h))},
				{compose(join(f, g), h), join(compose(f, h), compose(g, h))},
			} {
				if !same(l[0], l[1]) {
					t.Fatalf("%v is not %v, for %v, %v and %v", l[0], l[1], f, g, h)
				}
			}
		}
	}
}

func join(f, g api.Transfer) api.Transfer {
	j, _ := transfer.Join(f, g)
	return j
}

func compose(f, g api.Transfer) api.Transfer {
	c, _ := transfer.Compose(f, g)
	return c
}

// The examples of the chapter.
func TestExamples(t *testing.T) {
	f := function(t, 2, nil, []int{1}, api.Copy{From: 0, To: 1})
	for _, c := range []struct{ argument, want api.Set }{{set(t, 2, 0), set(t, 2, 0, 1)}, {set(t, 2, 1), set(t, 2)}} {
		if got, err := transfer.Apply(f, c.argument); err != api.OK || !sameSet(got, c.want) {
			t.Errorf("the value for %v is %v, %d, want %v", c.argument, got, err, c.want)
		}
	}
	got, err := transfer.Compose(function(t, 1, nil, []int{0}), function(t, 1, []int{0}, nil))
	expect(t, "Compose", got, err, function(t, 1, []int{0}, []int{0}), api.OK)
	got, err = transfer.Star(function(t, 3, nil, nil, api.Copy{From: 0, To: 1}, api.Copy{From: 1, To: 2}))
	expect(t, "Star", got, err, function(t, 3, nil, nil, api.Copy{From: 0, To: 1}, api.Copy{From: 0, To: 2}, api.Copy{From: 1, To: 2}), api.OK)
}

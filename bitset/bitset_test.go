package bitset_test

import (
	"math"
	"slices"
	"strconv"
	"strings"
	"testing"

	"flowquery/api"
	"flowquery/bitset"
)

const ones = math.MaxUint64

// widths are the permitted widths that the tests try: few bits, and one less, as many and one more than words hold.
var widths = []int{0, 1, 2, 5, 62, 63, 64, 65, 127, 128, 129, 191, 192, 193, 254, 255, 256}

// notPermitted are widths that no set has; from some of them the number of words would still be in bounds.
var notPermitted = []int{math.MinInt, math.MinInt + 1, -257, -256, -65, -64, -63, -1, 257, 258, 320, math.MaxInt - 1, math.MaxInt}

func set(width int, words ...uint64) api.Set { return api.Set{Width: width, Words: words} }

// model is a set written in another way: whether each bit from 0 to the width - 1 is a member.
type model []bool

func modelOf(width int, members ...int) model {
	m := make(model, width)
	for _, b := range members {
		m[b] = true
	}
	return m
}

// set follows the comment on api.Set.
func (m model) set() api.Set {
	s := api.Set{Width: len(m)}
	for from := 0; from < len(m); from += 64 {
		var word uint64
		for b := min(from+64, len(m)) - 1; b >= from; b-- {
			word *= 2
			if m[b] {
				word++
			}
		}
		s.Words = append(s.Words, word)
	}
	return s
}

func (m model) members() []int {
	var members []int
	for b, in := range m {
		if in {
			members = append(members, b)
		}
	}
	return members
}

// combined keeps the bits for which keep is true of their being in m and in n.
func (m model) combined(n model, keep func(x, y bool) bool) model {
	c := make(model, len(m))
	for b := range m {
		c[b] = keep(m[b], n[b])
	}
	return c
}

// models are sets of a width: without members, with all, with one or all but one, and with bits in a pattern.
func models(width int) []model {
	all := []model{make(model, width)}
	patterns := []func(b int) bool{
		func(b int) bool { return true },
		func(b int) bool { return b == 0 },
		func(b int) bool { return b == width-1 },
		func(b int) bool { return b != width-1 },
		func(b int) bool { return b%2 == 0 },
		func(b int) bool { return b%3 == 1 },
		func(b int) bool { return b%64 == 63 || b%64 == 0 },
		func(b int) bool { return b >= width/2 },
		func(b int) bool { return b*b%7 == 2 },
	}
	for _, in := range patterns {
		m := make(model, width)
		for b := range m {
			m[b] = in(b)
		}
		all = append(all, m)
	}
	return all
}

// invalid are sets that are not valid: with too few or too many words, with a bit from Width on, with a width that is
// not permitted.
func invalid() []api.Set {
	return []api.Set{
		set(0, 0), set(0, 1), set(0, 0, 0), set(1), set(5), set(5, 0, 0), set(5, 1<<5), set(5, 1<<6|1), set(5, 1<<63), set(5, ones),
		set(1, 2), set(63, 1<<63), set(63, ones), set(64), set(64, 0, 0), set(64, ones, ones), set(65, 1), set(65, 0, 2),
		set(65, ones, ones), set(65, 0, 1<<63), set(128, 0), set(128, 0, 0, 0), set(129, 0, 0), set(129, 0, 0, 2),
		set(255, 0, 0, 0, 1<<63), set(255, ones, ones, ones, ones), set(256, 0, 0, 0), set(256, 0, 0, 0, 0, 0), set(256),
		set(257, 0, 0, 0, 0), set(257, 0, 0, 0, 0, 0), set(257, 0, 0, 0, 0, 1), set(320, 0, 0, 0, 0, 0),
		set(-1), set(-1, 0), set(-63), set(-64), set(-64, 0), set(math.MinInt), set(math.MinInt, 0), set(math.MaxInt), set(math.MaxInt, 0, 0, 0, 0),
		{Width: -1, Words: []uint64{}}, {Width: 1, Words: []uint64{}},
	}
}

// places are bits inside and outside a width.
func places(width int) []int {
	near := []int{math.MinInt, -65, -64, -1, 0, 1, 3, 31, 32, 62, 63, 64, 65, 127, 128, 191, 192, 255, 256, 257, 319, 320, math.MaxInt}
	return append(near, width-2, width-1, width, width+1)
}

func same(a, b api.Set) bool { return a.Width == b.Width && slices.Equal(a.Words, b.Words) }

func isZero(s api.Set) bool { return s.Width == 0 && len(s.Words) == 0 }

// expect checks the results of a call: the error and, with it, the zero set, or the set of want.
func expect(t *testing.T, call string, got api.Set, err api.Errno, want model, wantErr api.Errno) {
	t.Helper()
	switch {
	case err != wantErr:
		t.Errorf("%s: error %d, want %d", call, err, wantErr)
	case err != api.OK && !isZero(got):
		t.Errorf("%s: error %d with %v, want the zero set", call, err, got)
	case err == api.OK && !same(got, want.set()):
		t.Errorf("%s = %v, want %v", call, got, want.set())
	}
}

// eachPair calls check for every pair of models of a width.
func eachPair(check func(m, n model)) {
	for _, width := range widths {
		for _, m := range models(width) {
			for _, n := range models(width) {
				check(m, n)
			}
		}
	}
}

// P2.1: Valid.
func TestValid(t *testing.T) {
	for _, s := range []api.Set{
		set(0), {Width: 0, Words: []uint64{}}, set(1, 0), set(1, 1), set(5, 0), set(5, 1<<4), set(5, 31), set(63, 1<<63-1), set(64, 0),
		set(64, ones), set(64, 1<<63), set(65, ones, 1), set(65, 0, 0), set(128, ones, ones), set(129, ones, ones, 1),
		set(255, ones, ones, ones, 1<<63-1), set(256, 0, 0, 0, 0), set(256, ones, ones, ones, ones), set(256, 0, 0, 0, 1<<63),
	} {
		if !bitset.Valid(s) {
			t.Errorf("Valid(%v) = false", s)
		}
	}
	for _, s := range invalid() {
		if bitset.Valid(s) {
			t.Errorf("Valid(%v) = true", s)
		}
	}
}

// P2.1: a set is valid exactly with the words of its width, and a single bit in it makes it invalid from Width on.
func TestValidForEveryWidth(t *testing.T) {
	for width := -130; width <= 390; width++ {
		for words := range 8 {
			s := api.Set{Width: width, Words: make([]uint64, words)}
			fits := 0 <= width && width <= 256 && 64*words >= width && 64*words < width+64
			if got := bitset.Valid(s); got != fits {
				t.Errorf("width %d with %d words: Valid = %v", width, words, got)
			}
			for b := range 64 * words {
				s.Words[b/64] = 1 << (b % 64)
				if got := bitset.Valid(s); got != (fits && b < width) {
					t.Errorf("width %d with %d words and bit %d: Valid = %v", width, words, b, got)
				}
				s.Words[b/64] = 0
			}
		}
	}
}

// P2.1: Empty and Full.
func TestEmptyAndFull(t *testing.T) {
	for width := range 257 {
		empty := make(model, width)
		full := empty.combined(empty, func(x, y bool) bool { return true })
		s, err := bitset.Empty(width)
		expect(t, "Empty("+strconv.Itoa(width)+")", s, err, empty, api.OK)
		s, err = bitset.Full(width)
		expect(t, "Full("+strconv.Itoa(width)+")", s, err, full, api.OK)
	}
	for _, width := range notPermitted {
		s, err := bitset.Empty(width)
		expect(t, "Empty("+strconv.Itoa(width)+")", s, err, nil, api.ErrRange)
		s, err = bitset.Full(width)
		expect(t, "Full("+strconv.Itoa(width)+")", s, err, nil, api.ErrRange)
	}
}

// P2.1: words that are written out.
func TestFullIsWrittenOut(t *testing.T) {
	for _, want := range []api.Set{
		set(0), set(1, 1), set(5, 31), set(63, 1<<63-1), set(64, ones), set(65, ones, 1), set(128, ones, ones), set(130, ones, ones, 3),
		set(255, ones, ones, ones, 1<<63-1), set(256, ones, ones, ones, ones),
	} {
		if got, err := bitset.Full(want.Width); err != api.OK || !same(got, want) {
			t.Errorf("Full(%d) = %v, %d, want %v", want.Width, got, err, want)
		}
	}
}

// P2.1: Of, with members that are unordered, repeated, at the edges, and outside.
func TestOf(t *testing.T) {
	for _, c := range []struct {
		members []int
		want    api.Set
	}{
		{nil, set(0)}, {[]int{}, set(0)}, {nil, set(5, 0)}, {[]int{}, set(64, 0)},
		{[]int{3, 0, 3}, set(5, 9)}, {[]int{0, 3}, set(5, 9)}, {[]int{3, 3, 3, 0, 0}, set(5, 9)}, {[]int{4}, set(5, 16)},
		{[]int{0, 1, 2, 3, 4}, set(5, 31)}, {[]int{4, 3, 2, 1, 0}, set(5, 31)},
		{[]int{0}, set(1, 1)}, {[]int{63}, set(64, 1<<63)}, {[]int{64}, set(65, 0, 1)}, {[]int{64, 63, 0}, set(65, 1<<63|1, 1)},
		{[]int{127}, set(128, 0, 1<<63)}, {[]int{255, 0}, set(256, 1, 0, 0, 1<<63)}, {[]int{128, 192, 64, 0}, set(256, 1, 1, 1, 1)},
	} {
		if got, err := bitset.Of(c.want.Width, c.members); err != api.OK || !same(got, c.want) {
			t.Errorf("Of(%d, %v) = %v, %d, want %v", c.want.Width, c.members, got, err, c.want)
		}
	}
}

// P2.1: Of, where the width is not permitted or a member is outside.
func TestOfErrors(t *testing.T) {
	for _, width := range notPermitted {
		for _, members := range [][]int{nil, {0}, {-1}, {width - 1}, {0, width}} {
			s, err := bitset.Of(width, members)
			expect(t, "Of", s, err, nil, api.ErrRange)
		}
	}
	for _, width := range widths {
		for _, b := range []int{math.MinInt, -257, -65, -64, -1, width, width + 1, width + 63, width + 64, 256, 257, 320, math.MaxInt} {
			for _, members := range [][]int{{b}, {b, b}, {b, 0}, {0, b}, {width - 1, b}, {b, width - 1}} {
				s, err := bitset.Of(width, members)
				expect(t, "Of", s, err, nil, api.ErrRange)
			}
		}
	}
}

// P2.1, P2.2: Of takes the members in any order and repeated, and Members returns them in ascending order.
func TestOfAndMembers(t *testing.T) {
	for _, width := range widths {
		for _, m := range models(width) {
			descending := m.members()
			slices.Reverse(descending)
			for _, members := range [][]int{m.members(), descending, append(m.members(), descending...)} {
				s, err := bitset.Of(width, members)
				expect(t, "Of", s, err, m, api.OK)
			}
			if got := bitset.Members(m.set()); !slices.Equal(got, m.members()) {
				t.Errorf("Members(%v) = %v, want %v", m.set(), got, m.members())
			}
			if got := bitset.Count(m.set()); got != len(m.members()) {
				t.Errorf("Count(%v) = %d, want %d", m.set(), got, len(m.members()))
			}
		}
	}
}

// P2.2: members and counts that are written out.
func TestMembersAndCount(t *testing.T) {
	for _, c := range []struct {
		s    api.Set
		want []int
	}{
		{set(0), nil}, {set(5, 0), nil}, {set(5, 9), []int{0, 3}}, {set(5, 31), []int{0, 1, 2, 3, 4}}, {set(64, 1<<63|1), []int{0, 63}},
		{set(65, 1<<63, 1), []int{63, 64}}, {set(256, 1, 0, 2, 1<<63), []int{0, 129, 255}}, {set(256, 0, 0, 0, 0), nil},
	} {
		if got := bitset.Members(c.s); !slices.Equal(got, c.want) {
			t.Errorf("Members(%v) = %v, want %v", c.s, got, c.want)
		}
		if got := bitset.Count(c.s); got != len(c.want) {
			t.Errorf("Count(%v) = %d, want %d", c.s, got, len(c.want))
		}
	}
}

// P2.2: an invalid set has no members.
func TestInvalidHasNoMembers(t *testing.T) {
	for _, s := range invalid() {
		if got := bitset.Members(s); len(got) != 0 {
			t.Errorf("Members(%v) = %v", s, got)
		}
		if got := bitset.Count(s); got != 0 {
			t.Errorf("Count(%v) = %d", s, got)
		}
		for _, b := range places(s.Width) {
			if bitset.Has(s, b) {
				t.Errorf("Has(%v, %d) = true", s, b)
			}
		}
	}
}

// P2.2: Has, inside and outside the width.
func TestHas(t *testing.T) {
	for _, width := range widths {
		for _, m := range models(width) {
			for _, b := range append(places(width), m.members()...) {
				want := b >= 0 && b < width && m[b]
				if got := bitset.Has(m.set(), b); got != want {
					t.Errorf("Has(%v, %d) = %v", m.set(), b, got)
				}
			}
		}
	}
}

// P2.3
func TestWithAndWithout(t *testing.T) {
	for _, width := range widths {
		for _, m := range models(width) {
			for _, b := range places(width) {
				if b < 0 || b >= width {
					s, err := bitset.With(m.set(), b)
					expect(t, "With", s, err, nil, api.ErrRange)
					s, err = bitset.Without(m.set(), b)
					expect(t, "Without", s, err, nil, api.ErrRange)
					continue
				}
				want := slices.Clone(m)
				want[b] = true
				s, err := bitset.With(m.set(), b)
				expect(t, "With", s, err, want, api.OK)
				want[b] = false
				s, err = bitset.Without(m.set(), b)
				expect(t, "Without", s, err, want, api.OK)
			}
		}
	}
}

// P2.3: words that are written out.
func TestWithAndWithoutAreWrittenOut(t *testing.T) {
	for _, c := range []struct {
		s             api.Set
		b             int
		with, without api.Set
	}{
		{set(5, 9), 0, set(5, 9), set(5, 8)},
		{set(5, 9), 4, set(5, 25), set(5, 9)},
		{set(65, 0, 1), 64, set(65, 0, 1), set(65, 0, 0)},
		{set(65, 0, 1), 63, set(65, 1<<63, 1), set(65, 0, 1)},
		{set(256, 0, 0, 0, 0), 255, set(256, 0, 0, 0, 1<<63), set(256, 0, 0, 0, 0)},
	} {
		if got, err := bitset.With(c.s, c.b); err != api.OK || !same(got, c.with) {
			t.Errorf("With(%v, %d) = %v, %d, want %v", c.s, c.b, got, err, c.with)
		}
		if got, err := bitset.Without(c.s, c.b); err != api.OK || !same(got, c.without) {
			t.Errorf("Without(%v, %d) = %v, %d, want %v", c.s, c.b, got, err, c.without)
		}
	}
}

// P2.3: an invalid set comes before a bit that is out of range (R4).
func TestWithAndWithoutOfInvalid(t *testing.T) {
	for _, s := range invalid() {
		for _, b := range places(s.Width) {
			got, err := bitset.With(s, b)
			expect(t, "With", got, err, nil, api.ErrInvalid)
			got, err = bitset.Without(s, b)
			expect(t, "Without", got, err, nil, api.ErrInvalid)
		}
	}
}

type operation struct {
	name string
	run  func(a, b api.Set) (api.Set, api.Errno)
	keep func(x, y bool) bool
}

func operations() []operation {
	return []operation{
		{"Union", bitset.Union, func(x, y bool) bool { return x || y }},
		{"Inter", bitset.Inter, func(x, y bool) bool { return x && y }},
		{"Diff", bitset.Diff, func(x, y bool) bool { return x && !y }},
	}
}

// P2.4
func TestOperations(t *testing.T) {
	for _, o := range operations() {
		eachPair(func(m, n model) {
			got, err := o.run(m.set(), n.set())
			expect(t, o.name, got, err, m.combined(n, o.keep), api.OK)
		})
	}
}

// P2.4: words that are written out.
func TestOperationsAreWrittenOut(t *testing.T) {
	for _, c := range []struct{ a, b, union, inter, diff api.Set }{
		{set(0), set(0), set(0), set(0), set(0)},
		{set(5, 9), set(5, 3), set(5, 11), set(5, 1), set(5, 8)},
		{set(5, 31), set(5, 0), set(5, 31), set(5, 0), set(5, 31)},
		{set(65, ones, 1), set(65, 1, 1), set(65, ones, 1), set(65, 1, 1), set(65, ones-1, 0)},
		{set(256, 1, 2, 3, 4), set(256, 4, 3, 2, 1), set(256, 5, 3, 3, 5), set(256, 0, 2, 2, 0), set(256, 1, 0, 1, 4)},
	} {
		for i, want := range []api.Set{c.union, c.inter, c.diff} {
			o := operations()[i]
			if got, err := o.run(c.a, c.b); err != api.OK || !same(got, want) {
				t.Errorf("%s(%v, %v) = %v, %d, want %v", o.name, c.a, c.b, got, err, want)
			}
		}
	}
}

// P2.4: an invalid set comes before widths that differ (R4).
func TestOperationsOfInvalid(t *testing.T) {
	for _, o := range operations() {
		for _, s := range invalid() {
			others := []api.Set{s, {Width: s.Width}, set(6, 1), set(0), set(256, 1, 1, 1, 1), set(5, ones)}
			for _, other := range others {
				got, err := o.run(s, other)
				expect(t, o.name, got, err, nil, api.ErrInvalid)
				got, err = o.run(other, s)
				expect(t, o.name, got, err, nil, api.ErrInvalid)
			}
		}
	}
}

// P2.4: widths that differ, with as many words and with more.
func TestOperationsOfTwoWidths(t *testing.T) {
	for _, o := range operations() {
		for _, v := range widths {
			for _, w := range widths {
				if v == w {
					continue
				}
				for i := range models(v) {
					got, err := o.run(models(v)[i].set(), models(w)[i].set())
					expect(t, o.name, got, err, nil, api.ErrWidth)
				}
			}
		}
	}
}

// P2.5
func TestEqualAndSubset(t *testing.T) {
	eachPair(func(m, n model) {
		if got := bitset.Equal(m.set(), n.set()); got != slices.Equal(m, n) {
			t.Errorf("Equal(%v, %v) = %v", m.set(), n.set(), got)
		}
		want := true
		for b := range m {
			want = want && (!m[b] || n[b])
		}
		if got := bitset.Subset(m.set(), n.set()); got != want {
			t.Errorf("Subset(%v, %v) = %v", m.set(), n.set(), got)
		}
	})
}

// P2.5: results that are written out; a nil and an empty slice are equal (R3).
func TestEqualAndSubsetAreWrittenOut(t *testing.T) {
	for _, c := range []struct {
		a, b          api.Set
		equal, subset bool
	}{
		{set(0), api.Set{Words: []uint64{}}, true, true},
		{set(5, 9), set(5, 9), true, true},
		{set(5, 1), set(5, 9), false, true},
		{set(5, 9), set(5, 1), false, false},
		{set(5, 0), set(5, 0), true, true},
		{set(5, 0), set(5, 9), false, true},
		{set(5, 9), set(6, 9), false, false},
		{set(5, 0), set(6, 0), false, false},
		{set(0), set(5, 0), false, false},
		{set(64, 1), set(65, 1, 0), false, false},
		{set(65, 1, 0), set(64, 1), false, false},
		{set(65, 1, 0), set(65, 1, 1), false, true},
		{set(65, 1, 1), set(65, 3, 0), false, false},
		{set(256, 0, 0, 0, 1<<63), set(256, 0, 0, 0, 1<<63), true, true},
		{set(256, 0, 0, 0, 1<<63), set(256, ones, ones, ones, 1<<63-1), false, false},
	} {
		if got := bitset.Equal(c.a, c.b); got != c.equal {
			t.Errorf("Equal(%v, %v) = %v", c.a, c.b, got)
		}
		if got := bitset.Subset(c.a, c.b); got != c.subset {
			t.Errorf("Subset(%v, %v) = %v", c.a, c.b, got)
		}
	}
}

// P2.5: invalid sets are not equal, and no subsets, even of themselves.
func TestEqualAndSubsetOfInvalid(t *testing.T) {
	for _, s := range invalid() {
		for _, other := range []api.Set{s, {Width: s.Width}, set(0), set(5, 31), set(64, ones), set(256, ones, ones, ones, ones)} {
			if bitset.Equal(s, other) || bitset.Equal(other, s) {
				t.Errorf("%v and %v are equal", s, other)
			}
			if bitset.Subset(s, other) || bitset.Subset(other, s) {
				t.Errorf("one of %v and %v is a subset of the other", s, other)
			}
		}
	}
}

// P2.6: texts that are written out, both ways.
func TestText(t *testing.T) {
	for _, c := range []struct {
		s    api.Set
		text string
	}{
		{set(0), "/0"}, {set(1, 0), "/1"}, {set(1, 1), "0/1"}, {set(5, 0), "/5"}, {set(5, 9), "0,3/5"}, {set(5, 31), "0,1,2,3,4/5"}, {set(10, 0), "/10"},
		{set(64, 1<<63), "63/64"}, {set(65, 1<<63, 1), "63,64/65"}, {set(100, 1<<10, 1<<35), "10,99/100"}, {set(101, 0, 1<<36), "100/101"},
		{set(256, 0, 0, 0, 0), "/256"}, {set(256, 1, 1, 1, 1<<63), "0,64,128,255/256"}, {set(256, 1<<9|1<<10, 1<<35|1<<36, 0, 0), "9,10,99,100/256"},
	} {
		if got := bitset.Text(c.s); got != c.text {
			t.Errorf("Text(%v) = %q, want %q", c.s, got, c.text)
		}
		if got, err := bitset.Parse(c.text); err != api.OK || !same(got, c.s) {
			t.Errorf("Parse(%q) = %v, %d, want %v", c.text, got, err, c.s)
		}
	}
	for _, s := range invalid() {
		if got := bitset.Text(s); got != "" {
			t.Errorf("Text(%v) = %q", s, got)
		}
	}
}

// P2.6: every set is read from its text, which has its members and its width.
func TestTextAndParse(t *testing.T) {
	for width := range 257 {
		for _, m := range models(width) {
			var numbers []string
			for _, b := range m.members() {
				numbers = append(numbers, strconv.Itoa(b))
			}
			want := strings.Join(numbers, ",") + "/" + strconv.Itoa(width)
			if got := bitset.Text(m.set()); got != want {
				t.Errorf("Text(%v) = %q, want %q", m.set(), got, want)
			}
			s, err := bitset.Parse(want)
			expect(t, "Parse("+want+")", s, err, m, api.OK)
		}
	}
}

// notTexts are texts of no set.
func notTexts() []string {
	texts := []string{
		"", "/", "//", "0", "5", "0,3", "0,3,5", ",", ",/", ",/5", "0/", "0,3/", "/5/", "//5", "0//5", "0,3/5/", "0,3/5/5", "0/3/5", "/5,", "/0,5",
		"00/5", "0,03/5", "0,3/05", "/00", "/05", "/0005", "01/5", "000000000000000000000000000003/5", "/00000000000000000000000000005",
		"3,0/5", "4,3/5", "0,0/5", "3,3/5", "0,3,3/5", "0,3,0/5", "0,2,1/5", "0,1,2,2/5", "10,9/11", "64,63/65",
		"0,/5", ",0/5", "0,,3/5", ",,/5", "0,3,/5", ",0,3/5",
		" 0,3/5", "0,3/5 ", "0, 3/5", "0 ,3/5", "0,3 /5", "0,3/ 5", " /5", "/ 5", "/5 ", "/5\n", "\n/5", "0,3/5\r\n", "\t/5", "/5\x00", "\x00/5", "0\u00a0/5", " ", "\n", "0 3/5",
		"0,5/5", "5/5", "6/5", "0/0", "1/1", "64/64", "255/255", "256/256", "300/256", "0,1,2,3,4,5/5", "0,1000/256",
		"/257", "0/257", "256/257", "0,3/257", "/1000", "/320",
		"/2147483647", "/2147483648", "/4294967296", "/4294967301", "/9223372036854775807", "/9223372036854775808", "/18446744073709551616",
		"/18446744073709551621", "0/99999999999999999999999999", "4294967296/5", "4294967299/5", "9223372036854775808/5",
		"18446744073709551616/5", "18446744073709551619/5", "0,18446744073709551619/5", "99999999999999999999999999/256",
		"-1/5", "-0/5", "0/-1", "/-0", "/-5", "/-64", "-1,0/5", "0,-3/5", "+0/5", "0,+3/5", "/+5", "--0/5", "-9223372036854775808/5", "/-9223372036854775808",
		"0x3/5", "/0x5", "0b1/5", "0o3/5", "3e0/5", "3./5", "3.0/5", ".3/5", "1_0/20", "/1_0", "0_3/5", "a/5", "0,a/5", "/a", "0;3/5", "0,3\\5", "0,3|5", "{0,3}/5", "0-3/5", "inf/5",
		"٣/5", "３/5", "0,³/5", "0,3/५", "0，3/5", "0,3∕5", "\xff/5", "0,\xff/5", "/\xff", "0,3/5\xff", "\ufeff/5",
		"0,3:5", "0,3/5,", "answer 0,3/5", "0,3/5#", "\"0,3/5\"", "O/5", "l/5",
	}
	return append(texts, strings.Repeat("0", 1<<16), strings.Repeat("9", 1<<16)+"/5", "/"+strings.Repeat("9", 1<<16), strings.Repeat("0,", 1<<16)+"0/5",
		strings.Repeat(",", 1<<16)+"/5", strings.Repeat("/", 1<<16), "0,3/5"+strings.Repeat("0", 1<<16))
}

// P2.6: texts of no set.
func TestParseErrors(t *testing.T) {
	for _, text := range notTexts() {
		s, err := bitset.Parse(text)
		expect(t, strconv.Quote(text), s, err, nil, api.ErrSyntax)
	}
}

// P2.6: what Parse reads is the text of the set that it returns, also where a text is changed in one place.
func TestParseReadsTextsOnly(t *testing.T) {
	bytes := []byte("0123456789,/ -+_\x00\xff")
	for _, text := range []string{"/0", "/5", "0/1", "0,3/5", "9,10/11", "63,64/65", "0,99,100,255/256"} {
		for i := range len(text) + 1 {
			changed := []string{text[:i], text[i:]}
			if i < len(text) {
				changed = append(changed, text[:i]+text[i+1:])
			}
			for _, c := range bytes {
				changed = append(changed, text[:i]+string(rune(c))+text[i:])
				if i < len(text) {
					changed = append(changed, text[:i]+string([]byte{c})+text[i+1:])
				}
			}
			for _, c := range changed {
				if s, err := bitset.Parse(c); err == api.OK && bitset.Text(s) != c || err != api.OK && (err != api.ErrSyntax || !isZero(s)) {
					t.Errorf("Parse(%q) = %v, %d, and its text is %q", c, s, err, bitset.Text(s))
				}
			}
		}
	}
}

// P0.1: R2. A result is new memory, and no argument is changed.
func TestResultsAreNew(t *testing.T) {
	for _, width := range widths {
		for _, m := range models(width) {
			for name, run := range functionsOf(width) {
				s, members := m.set(), m.members()
				result, err := run(s, members)
				if !same(s, m.set()) || !slices.Equal(members, m.members()) {
					t.Fatalf("%s changes its argument %v", name, m.set())
				}
				if err != api.OK {
					continue
				}
				overwrite(result)
				if !same(s, m.set()) || !slices.Equal(members, m.members()) {
					t.Errorf("%s: the result shares memory with its argument %v", name, m.set())
				}
				again, _ := run(s, members)
				twice, _ := run(s, members)
				overwrite(again)
				if fresh, _ := run(s, members); !same(twice, fresh) {
					t.Errorf("%s: two results share memory for %v", name, m.set())
				}
			}
		}
	}
}

// overwrite changes all words of s, those beyond its length, too.
func overwrite(s api.Set) {
	words := s.Words[:cap(s.Words)]
	for i := range words {
		words[i] = ^words[i]
	}
}

func functionsOf(width int) map[string]func(s api.Set, members []int) (api.Set, api.Errno) {
	return map[string]func(s api.Set, members []int) (api.Set, api.Errno){
		"Empty":             func(api.Set, []int) (api.Set, api.Errno) { return bitset.Empty(width) },
		"Full":              func(api.Set, []int) (api.Set, api.Errno) { return bitset.Full(width) },
		"Of":                func(s api.Set, members []int) (api.Set, api.Errno) { return bitset.Of(width, members) },
		"With the first":    func(s api.Set, members []int) (api.Set, api.Errno) { return bitset.With(s, 0) },
		"With the last":     func(s api.Set, members []int) (api.Set, api.Errno) { return bitset.With(s, width-1) },
		"Without the first": func(s api.Set, members []int) (api.Set, api.Errno) { return bitset.Without(s, 0) },
		"Without the last":  func(s api.Set, members []int) (api.Set, api.Errno) { return bitset.Without(s, width-1) },
		"Union":             func(s api.Set, members []int) (api.Set, api.Errno) { return bitset.Union(s, s) },
		"Inter":             func(s api.Set, members []int) (api.Set, api.Errno) { return bitset.Inter(s, s) },
		"Diff":              func(s api.Set, members []int) (api.Set, api.Errno) { return bitset.Diff(s, s) },
		"Union with Empty": func(s api.Set, members []int) (api.Set, api.Errno) {
			empty, _ := bitset.Empty(width)
			return bitset.Union(s, empty)
		},
		"Diff without Empty": func(s api.Set, members []int) (api.Set, api.Errno) {
			empty, _ := bitset.Empty(width)
			return bitset.Diff(s, empty)
		},
		"Parse": func(s api.Set, members []int) (api.Set, api.Errno) { return bitset.Parse(bitset.Text(s)) },
	}
}

// P0.1: R2, for the functions whose result is no set.
func TestReadingChangesNothing(t *testing.T) {
	for _, width := range widths {
		for _, m := range models(width) {
			s := m.set()
			bitset.Valid(s)
			bitset.Has(s, 0)
			bitset.Count(s)
			bitset.Text(s)
			bitset.Equal(s, s)
			bitset.Subset(s, s)
			members := bitset.Members(s)
			for i := range members {
				members[i] = -1
			}
			if !same(s, m.set()) || !slices.Equal(bitset.Members(s), m.members()) {
				t.Errorf("%v was changed", m.set())
			}
		}
	}
}

// P0.1: R2. A part of a longer slice is a set, and what comes after it stays as it is.
func TestWordsBeyondTheSetStay(t *testing.T) {
	words := []uint64{1, 1 << 63, 7, 9}
	s := api.Set{Width: 65, Words: words[:2]}
	if bitset.Valid(s) {
		t.Fatal("a bit from Width on is valid")
	}
	s.Width = 128
	for _, run := range functionsOf(128) {
		result, err := run(s, []int{0, 127})
		if err != api.OK {
			t.Fatalf("error %d", err)
		}
		result.Words = append(result.Words, 5)
		overwrite(result)
	}
	if !slices.Equal(words, []uint64{1, 1 << 63, 7, 9}) {
		t.Errorf("the words are now %v", words)
	}
}

// The consequences that the chapter draws for two sets.
func TestConsequencesForPairs(t *testing.T) {
	eachPair(func(m, n model) {
		a, b := m.set(), n.set()
		for _, o := range operations()[:2] {
			x, _ := o.run(a, b)
			y, _ := o.run(b, a)
			idem, _ := o.run(a, a)
			if !bitset.Equal(x, y) || !bitset.Equal(idem, a) {
				t.Errorf("%s is not commutative or not idempotent for %v, %v", o.name, a, b)
			}
		}
		union, _ := bitset.Union(a, b)
		x, _ := bitset.Diff(union, b)
		y, _ := bitset.Diff(a, b)
		if !bitset.Equal(x, y) {
			t.Errorf("Diff(Union(a, b), b) = %v, want %v", x, y)
		}
	})
}

// The consequences that the chapter draws for three sets.
func TestConsequencesForTriples(t *testing.T) {
	eachPair(func(m, n model) {
		for _, l := range models(len(m)) {
			a, b, c := m.set(), n.set(), l.set()
			for i, o := range operations()[:2] {
				left, _ := o.run(a, b)
				left, _ = o.run(left, c)
				right, _ := o.run(b, c)
				right, _ = o.run(a, right)
				if !bitset.Equal(left, right) {
					t.Errorf("%s is not associative for %v, %v, %v", o.name, a, b, c)
				}
				other := operations()[1-i]
				x, _ := other.run(b, c)
				x, _ = o.run(a, x)
				y, _ := o.run(a, b)
				z, _ := o.run(a, c)
				z, _ = other.run(y, z)
				if !bitset.Equal(x, z) {
					t.Errorf("%s does not distribute over %s for %v, %v, %v", o.name, other.name, a, b, c)
				}
			}
		}
	})
}

// The examples of the chapter.
func TestExamples(t *testing.T) {
	s, err := bitset.Of(5, []int{3, 0, 3})
	if got := bitset.Text(s); err != api.OK || got != "0,3/5" {
		t.Errorf("the text of Of(5, {3, 0, 3}) is %q, with error %d", got, err)
	}
	wider, _ := bitset.Empty(6)
	got, err := bitset.Union(s, wider)
	expect(t, "Union of the widths 5 and 6", got, err, nil, api.ErrWidth)
	empty, err := bitset.Empty(0)
	if got := bitset.Text(empty); err != api.OK || got != "/0" {
		t.Errorf("the text of Empty(0) is %q, with error %d", got, err)
	}
}

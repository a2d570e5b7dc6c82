package resume_test

import (
	"bytes"
	"encoding/binary"
	"hash/crc32"
	"math"
	"reflect"
	"slices"
	"strings"
	"testing"

	"flowquery/api"
	"flowquery/bitset"
	"flowquery/proof"
	"flowquery/resume"
	"flowquery/solver"
)

// setOf returns the set of a text.
func setOf(t *testing.T, text string) api.Set {
	t.Helper()
	s, err := bitset.Parse(text)
	if err != api.OK {
		t.Fatalf("Parse(%q) is %v", text, err)
	}
	return s
}

// setsOf returns the sets of texts.
func setsOf(t *testing.T, texts ...string) []api.Set {
	t.Helper()
	var list []api.Set
	for _, text := range texts {
		list = append(list, setOf(t, text))
	}
	return list
}

// sealed returns bytes with their checksum.
func sealed(body ...byte) []byte {
	return binary.BigEndian.AppendUint32(slices.Clone(body), crc32.ChecksumIEEE(body))
}

// equalSets reports whether two sets have the same parts.
func equalSets(s, u api.Set) bool { return s.Width == u.Width && slices.Equal(s.Words, u.Words) }

// equal reports whether two states have the same parts, where nil and empty slices are equal.
func equal(st, other api.State) bool {
	return st.Phase == other.Phase && slices.Equal(st.Cone, other.Cone) && slices.Equal(st.Leaf, other.Leaf) && st.At == other.At && st.Edge == other.Edge &&
		slices.EqualFunc(st.Values, other.Values, equalSets) && slices.Equal(st.Queue, other.Queue) && st.Steps == other.Steps
}

// checkBytes checks that a state has an encoding, given without its checksum, and the other way round.
func checkBytes(t *testing.T, st api.State, body []byte) {
	t.Helper()
	want := sealed(body...)
	if got, err := resume.Encode(st); err != api.OK || !bytes.Equal(got, want) {
		t.Fatalf("the encoding of %v is %x, %v, want %x", st, got, err, want)
	}
	if got, err := resume.Decode(want); err != api.OK || !equal(got, st) {
		t.Fatalf("Decode of %x is %v, %v, want %v", want, got, err, st)
	}
}

// checkEncodeError checks that a state has no encoding.
func checkEncodeError(t *testing.T, st api.State) {
	t.Helper()
	if b, err := resume.Encode(st); b != nil || err != api.ErrInvalid {
		t.Errorf("the encoding of %v is %x, %v", st, b, err)
	}
}

// checkDecodeError checks that Decode returns an error.
func checkDecodeError(t *testing.T, b []byte, want api.Errno) {
	t.Helper()
	if st, err := resume.Decode(b); !reflect.DeepEqual(st, api.State{}) || err != want {
		t.Errorf("Decode of %x is %v, %v, want %v", b, st, err, want)
	}
}

// P18.1 to P18.3: the examples of the chapter.
func TestExamples(t *testing.T) {
	start := solver.Start(0)
	body := []byte{1, 1, 0, 0, 0, 0, 0, 0, 0}
	checkBytes(t, start, body)
	if got := resume.Text(start); got != "demand 1 0 0\n" {
		t.Errorf("the text is %q", got)
	}
	start.Cone, start.Leaf = nil, nil
	checkEncodeError(t, start)
	start.Leaf = []bool{false}
	checkEncodeError(t, start)
	checkDecodeError(t, sealed(1, 0, 0, 0, 0, 0, 0), api.ErrMalformed)
}

// P18.1, P18.2: written-out encodings.
func TestEncode(t *testing.T) {
	for _, c := range []struct {
		st   api.State
		body []byte
	}{
		{solver.Start(1), []byte{1, 1, 1, 0, 0, 0, 0, 0, 0}},
		{solver.Start(200), []byte{1, 1, 200, 1, 0, 0, 0, 0, 0, 0}},
		{solver.Start(api.MaxCounter), []byte{1, 1, 128, 128, 128, 128, 4, 0, 0, 0, 0, 0, 0}},
		{api.State{Phase: api.PhaseDemand, Cone: []int{7, 5, 6}, Leaf: []bool{false, true, false}, At: 2, Edge: 1, Steps: 4}, []byte{1, 3, 7, 5, 6, 0, 1, 0, 2, 1, 0, 0, 4}},
		{api.State{Phase: api.PhaseSolve, Cone: []int{4, 3}, Leaf: []bool{true, false}, Values: setsOf(t, "0,2/3", "/3"), Queue: []int{1, 0}, Steps: 9}, []byte{2, 2, 4, 3, 1, 0, 0, 0, 2, 3, 2, 0, 1, 3, 0, 2, 1, 0, 9}},
		{api.State{Phase: api.PhaseDone, Cone: []int{0}, Leaf: []bool{true}, Values: setsOf(t, "/0"), Steps: 2}, []byte{3, 1, 0, 1, 0, 0, 1, 0, 0, 0, 2}},
		{api.State{Phase: api.PhaseDone, Cone: []int{2, 1}, Leaf: []bool{true, true}, Values: setsOf(t, "1,2,63,64,200/256", "0,1,2/3"), Steps: 300}, []byte{3, 2, 2, 1, 1, 1, 0, 0, 2, 128, 2, 5, 1, 0, 60, 0, 135, 1, 3, 3, 0, 0, 0, 0, 172, 2}},
	} {
		checkBytes(t, c.st, c.body)
	}
	for _, c := range []struct {
		st   api.State
		want []byte
	}{
		{solver.Start(0), []byte{1, 1, 0, 0, 0, 0, 0, 0, 0, 0x3d, 0xd8, 0x00, 0x73}},
		{api.State{Phase: api.PhaseDone, Cone: []int{0}, Leaf: []bool{false}, Values: setsOf(t, "0/1"), Steps: 2}, []byte{3, 1, 0, 0, 0, 0, 1, 1, 1, 0, 0, 2, 0x6d, 0x4b, 0x37, 0x03}},
	} {
		if got, err := resume.Encode(c.st); err != api.OK || !bytes.Equal(got, c.want) {
			t.Errorf("the encoding of %v with its checksum is %x, %v, want %x", c.st, got, err, c.want)
		}
		if sum := proof.Checksum(c.want[:len(c.want)-4]); sum != binary.BigEndian.Uint32(c.want[len(c.want)-4:]) {
			t.Errorf("the checksum of %x is %08x", c.want, sum)
		}
	}
}

// P18.1, P18.2: a state need not be one that a solver can be in.
func TestEncodeAnyState(t *testing.T) {
	for _, c := range []struct {
		st   api.State
		body []byte
	}{
		// Equal unknowns, a leaf that is not expanded yet, At and Edge without meaning, a queue in PhaseDemand.
		{api.State{Phase: api.PhaseDemand, Cone: []int{3, 3}, Leaf: []bool{false, true}, At: 300, Edge: 5000, Queue: []int{7, 7, 900}}, []byte{1, 2, 3, 3, 0, 1, 172, 2, 136, 39, 0, 3, 7, 7, 132, 7, 0}},
		// Values in PhaseDemand, of different widths.
		{api.State{Phase: api.PhaseDemand, Cone: []int{0, 1}, Leaf: []bool{true, true}, Values: setsOf(t, "0/1", "/200")}, []byte{1, 2, 0, 1, 1, 1, 0, 0, 2, 1, 1, 0, 200, 1, 0, 0, 0}},
		// No values and no queue in PhaseSolve.
		{api.State{Phase: api.PhaseSolve, Cone: []int{0, 1}, Leaf: []bool{false, false}}, []byte{2, 2, 0, 1, 0, 0, 0, 0, 0, 0, 0}},
		// A queue in PhaseDone that is longer than the cone.
		{api.State{Phase: api.PhaseDone, Cone: []int{0}, Leaf: []bool{false}, At: 1, Edge: 2, Queue: []int{3, 4}, Steps: 5}, []byte{3, 1, 0, 0, 1, 2, 0, 2, 3, 4, 5}},
		// The first number that needs two bytes, three and so on, in each place.
		{api.State{Phase: api.PhaseSolve, Cone: []int{127, 128}, Leaf: []bool{false, false}, At: 16383, Edge: 16384, Queue: []int{2097151, 2097152, 268435455}, Steps: 268435456}, []byte{2, 2, 127, 128, 1, 0, 0, 255, 127, 128, 128, 1, 0, 3, 255, 255, 127, 128, 128, 128, 1, 255, 255, 255, 127, 128, 128, 128, 128, 1}},
	} {
		checkBytes(t, c.st, c.body)
	}
}

// P18.1, P18.2: cones, lists of values and queues of all lengths that are permitted, and longer ones.
func TestLengths(t *testing.T) {
	for size := range api.MaxNodes + 3 {
		st := api.State{Phase: api.PhaseSolve, Cone: make([]int, size), Leaf: make([]bool, size)}
		for i := range size {
			st.Cone[i], st.Leaf[i] = 3*i, i%3 == 0
		}
		checkState(t, st)
		st.Values = slices.Repeat(setsOf(t, "1/70"), size)
		checkState(t, st)
		st.Queue = slices.Repeat([]int{5}, api.MaxNodes-size/2)
		checkState(t, st)
		st = api.State{Phase: api.PhaseDone, Cone: []int{1, 2}, Leaf: []bool{true, false}, Queue: st.Cone}
		checkState(t, st)
		st = api.State{Phase: api.PhaseDone, Cone: []int{1, 2}, Leaf: []bool{true, false}, Values: slices.Repeat(setsOf(t, "/5"), size)}
		checkState(t, st)
		st = api.State{Phase: api.PhaseDone, Cone: make([]int, api.MaxNodes), Leaf: make([]bool, api.MaxNodes), Values: slices.Repeat(setsOf(t, "/5"), size)}
		checkState(t, st)
		st = api.State{Phase: api.PhaseDone, Cone: make([]int, api.MaxNodes), Leaf: make([]bool, size)}
		checkState(t, st)
	}
}

// P18.1, P18.2: the largest state, and one more of each of its parts.
func TestLimits(t *testing.T) {
	full, _ := bitset.Full(api.MaxWidth)
	size := api.MaxNodes
	largest := api.State{Phase: api.PhaseDone, Cone: slices.Repeat([]int{api.MaxCounter}, size), Leaf: slices.Repeat([]bool{true}, size), At: api.MaxCounter, Edge: api.MaxCounter,
		Values: slices.Repeat([]api.Set{full}, size), Queue: slices.Repeat([]int{api.MaxCounter}, size), Steps: api.MaxCounter}
	checkBytes(t, largest, bodyOf(largest))
	for _, change := range []func(st *api.State){
		func(st *api.State) { st.Phase++ },
		func(st *api.State) { st.Cone[size-1]++ },
		func(st *api.State) { st.At++ },
		func(st *api.State) { st.Edge++ },
		func(st *api.State) { st.Queue[size-1]++ },
		func(st *api.State) { st.Steps++ },
		func(st *api.State) { st.Queue = append(st.Queue, 0) },
		func(st *api.State) {
			st.Cone, st.Leaf, st.Values = append(st.Cone, 0), append(st.Leaf, false), append(st.Values, full)
		},
	} {
		st := copied(largest)
		change(&st)
		checkEncodeError(t, st)
		checkDecodeError(t, sealed(bodyOf(st)...), api.ErrMalformed)
	}
	long := api.State{Phase: api.PhaseDemand, Cone: make([]int, 1<<20), Leaf: make([]bool, 1<<20), Values: make([]api.Set, 1<<20), Queue: make([]int, 1<<20)}
	checkEncodeError(t, long)
	if got := resume.Text(long); got != "demand 1048576 1048576 0\n" {
		t.Errorf("the text of long lists is %q", got)
	}
}

// P18.1, P18.2: sets of one or all members, of all widths.
func TestSets(t *testing.T) {
	for width := range api.MaxWidth + 1 {
		full, _ := bitset.Full(width)
		empty, _ := bitset.Empty(width)
		sets := []api.Set{full, empty}
		for b := range min(width, api.MaxNodes-2) {
			one, _ := bitset.Of(width, []int{b})
			sets = append(sets, one)
		}
		st := api.State{Phase: api.PhaseSolve, Cone: make([]int, len(sets)), Leaf: make([]bool, len(sets)), Values: sets, Queue: []int{0}, Steps: width}
		checkBytes(t, st, bodyOf(st))
	}
}

// P18.1, R1, R5: states without an encoding, with what is wrong at each place.
func TestEncodeInvalid(t *testing.T) {
	fine := api.State{Phase: api.PhaseSolve, Cone: []int{4, 3, 0}, Leaf: []bool{true, false, false}, At: 1, Edge: 2, Values: setsOf(t, "0,2/3", "/3", "69/70"), Queue: []int{1, 0}, Steps: 9}
	checkBytes(t, fine, bodyOf(fine))
	change := func(change func(st *api.State)) {
		t.Helper()
		st := copied(fine)
		change(&st)
		checkEncodeError(t, st)
	}
	for _, n := range []int{-1, -2, -api.MaxCounter, api.MaxCounter + 1, api.MaxCounter * 2, math.MinInt32, math.MaxInt32, math.MinInt, math.MaxInt} {
		change(func(st *api.State) { st.Phase = n })
		change(func(st *api.State) { st.At = n })
		change(func(st *api.State) { st.Edge = n })
		change(func(st *api.State) { st.Steps = n })
		for i := range fine.Cone {
			change(func(st *api.State) { st.Cone[i] = n })
		}
		for i := range fine.Queue {
			change(func(st *api.State) { st.Queue[i] = n })
		}
	}
	for _, phase := range []int{0, 4, 5, 127, 128, 129, 256, 257, 1 << 32, 1<<32 + 1} {
		change(func(st *api.State) { st.Phase = phase })
	}
	change(func(st *api.State) { st.Cone = nil })
	change(func(st *api.State) { st.Cone, st.Leaf = nil, nil })
	change(func(st *api.State) { st.Cone, st.Leaf, st.Values = nil, nil, nil })
	change(func(st *api.State) { st.Leaf = nil })
	for i := range fine.Cone {
		change(func(st *api.State) { st.Cone = slices.Delete(st.Cone, i, i+1) })
		change(func(st *api.State) { st.Leaf = slices.Delete(st.Leaf, i, i+1) })
		change(func(st *api.State) { st.Values = slices.Delete(st.Values, i, i+1) })
		change(func(st *api.State) { st.Values = st.Values[i : i+1] })
		for _, bad := range []api.Set{{Width: 3}, {Width: 3, Words: []uint64{8}}, {Width: 3, Words: []uint64{0, 0}}, {Words: []uint64{0}}, {Width: -1}, {Width: -64}, {Width: 257, Words: make([]uint64, 5)}, {Width: math.MaxInt}, {Width: math.MinInt}, {Width: 70, Words: []uint64{0, 64}}} {
			change(func(st *api.State) { st.Values[i] = bad })
		}
	}
	change(func(st *api.State) { st.Cone = append(st.Cone, 1) })
	change(func(st *api.State) { st.Leaf = append(st.Leaf, false) })
	change(func(st *api.State) { st.Values = append(st.Values, setOf(t, "/3")) })
	checkEncodeError(t, api.State{})
	checkEncodeError(t, api.State{Phase: api.PhaseDone})
}

// P18.2: the order of the errors of Decode.
func TestDecodeErrors(t *testing.T) {
	for _, b := range [][]byte{nil, {}, {0}, {1}, {0, 0}, {0, 0, 0}, {255, 255, 255}, {1, 1, 0}} {
		checkDecodeError(t, b, api.ErrTruncated)
	}
	// The checksum of no bytes is 0.
	checkDecodeError(t, []byte{0, 0, 0, 0}, api.ErrMalformed)
	for _, b := range [][]byte{{0, 0, 0, 1}, {1, 0, 0, 0}, {0, 1, 0, 0}, {0, 0, 1, 0}, {255, 255, 255, 255}} {
		checkDecodeError(t, b, api.ErrChecksum)
	}
	// Each bit, also where the bytes before the checksum are no encoding.
	solving := api.State{Phase: api.PhaseSolve, Cone: []int{400, 3}, Leaf: []bool{true, false}, Values: setsOf(t, "0,2/3", "/3"), Queue: []int{1, 0}, Steps: 900}
	for _, st := range []api.State{solver.Start(0), solving} {
		body := bodyOf(st)
		for _, body := range [][]byte{body, append(slices.Clone(body), 0), body[1:]} {
			whole := sealed(body...)
			for i := range 8 * len(whole) {
				whole[i/8] ^= 1 << (i % 8)
				checkDecodeError(t, whole, api.ErrChecksum)
				whole[i/8] ^= 1 << (i % 8)
			}
			for i := range whole {
				if short := whole[:i]; i < 4 {
					checkDecodeError(t, short, api.ErrTruncated)
				} else if binary.BigEndian.Uint32(short[i-4:]) != crc32.ChecksumIEEE(short[:i-4]) {
					checkDecodeError(t, short, api.ErrChecksum)
				}
			}
			checkDecodeError(t, append(slices.Clone(whole), 0), api.ErrChecksum)
			checkDecodeError(t, append([]byte{0}, whole...), api.ErrChecksum)
			checkDecodeError(t, body, api.ErrChecksum)
			// The least significant byte of the checksum first.
			slices.Reverse(whole[len(whole)-4:])
			checkDecodeError(t, whole, api.ErrChecksum)
		}
	}
}

// P18.2: bytes with the right checksum that are no encoding.
func TestDecodeMalformed(t *testing.T) {
	for _, body := range [][]byte{
		{}, {1}, {1, 1}, {1, 1, 0, 0, 0, 0, 0, 0}, {1, 1, 0, 0, 0, 0, 0, 0, 0, 0},
		// Phases, no cone, a mark that is neither 0 nor 1, fewer or more values than unknowns, a short queue.
		{0, 1, 0, 0, 0, 0, 0, 0, 0}, {4, 1, 0, 0, 0, 0, 0, 0, 0}, {129, 2, 1, 0, 0, 0, 0, 0, 0, 0}, {1, 0, 0, 0, 0, 0, 0}, {1, 1, 0, 2, 0, 0, 0, 0, 0}, {1, 1, 0, 128, 1, 0, 0, 0, 0, 0}, {1, 1, 0, 129, 1, 0, 0, 0, 0, 0},
		{1, 2, 0, 1, 0, 0, 0, 0, 1, 0, 0, 0, 0}, {1, 1, 0, 0, 0, 0, 2, 0, 0, 0, 0, 0, 0}, {2, 1, 0, 0, 0, 0, 0, 2, 0, 0}, {2, 1, 0, 0, 0, 0, 0, 1, 0},
		// Sets: the width 257, more members than bits, a member that is no bit.
		{2, 1, 0, 0, 0, 0, 1, 129, 2, 0, 0, 0}, {2, 1, 0, 0, 0, 0, 1, 1, 2, 0, 0, 0, 0}, {2, 1, 0, 0, 0, 0, 1, 1, 1, 1, 0, 0}, {2, 1, 0, 0, 0, 0, 1, 3, 2, 2, 0, 0, 0}, {2, 1, 0, 0, 0, 0, 1, 0, 1, 0, 0, 0},
		// Numbers above MaxCounter: in the cone, At, Edge, in the queue, Steps.
		{1, 1, 129, 128, 128, 128, 4, 0, 0, 0, 0, 0, 0}, {1, 1, 0, 0, 129, 128, 128, 128, 4, 0, 0, 0, 0}, {1, 1, 0, 0, 0, 129, 128, 128, 128, 4, 0, 0, 0}, {1, 1, 0, 0, 0, 0, 0, 1, 129, 128, 128, 128, 4, 0}, {1, 1, 0, 0, 0, 0, 0, 0, 129, 128, 128, 128, 4},
		{1, 1, 0, 0, 255, 255, 255, 255, 7, 0, 0, 0, 0}, {1, 1, 0, 0, 128, 128, 128, 128, 8, 0, 0, 0, 0}, {1, 1, 0, 0, 128, 128, 128, 128, 128, 128, 128, 128, 128, 1, 0, 0, 0, 0},
		{128}, {255}, {255, 255}, {128, 128, 128, 128, 128}, {1, 1, 0, 0, 0, 0, 0, 0, 128},
	} {
		if checkBody(t, body) {
			t.Errorf("%x is the encoding of a state", body)
		}
	}
	// Numbers of 0 that are not of minimal length, at each place.
	full := []byte{1, 1, 0, 0, 0, 0, 1, 0, 0, 1, 0, 0}
	if !checkBody(t, full) {
		t.Errorf("%x is no encoding", full)
	}
	for place, b := range full {
		for zeros := range 12 {
			number := append(append([]byte{b | 128}, bytes.Repeat([]byte{128}, zeros)...), 0)
			if body := slices.Replace(slices.Clone(full), place, place+1, number...); checkBody(t, body) {
				t.Errorf("%x is the encoding of a state", body)
			}
		}
	}
}

// P18.2: numbers that are 0 or 1 if only their lowest 7, 14 .. 63, 64 or more bits count.
func TestDecodeLongNumbers(t *testing.T) {
	for low := range byte(2) {
		for zeros := range 12 {
			for high := 1; high < 256; high++ {
				number := append(append([]byte{low | 128}, bytes.Repeat([]byte{128}, zeros)...), byte(high))
				for place := range 12 {
					checkBody(t, slices.Replace([]byte{1, 1, 0, 0, 0, 0, 1, 0, 0, 1, 0, 0}, place, place+1, number...))
				}
			}
		}
	}
}

// P18.3: the texts of all phases, with lists of several lengths.
func TestText(t *testing.T) {
	for _, c := range []struct {
		st   api.State
		want string
	}{
		{api.State{}, "? 0 0 0\n"},
		{solver.Start(5), "demand 1 0 0\n"},
		{api.State{Phase: api.PhaseDemand, Cone: []int{7, 5, 6}, Leaf: []bool{false, true, false}, At: 2, Edge: 1, Steps: 4}, "demand 3 0 4\n"},
		{api.State{Phase: api.PhaseSolve, Cone: []int{4, 3}, Leaf: []bool{true, false}, Values: setsOf(t, "0,2/3", "/3"), Queue: []int{1}, Steps: 9}, "solve 2 1 9\n"},
		{api.State{Phase: api.PhaseDone, Cone: []int{0}, Leaf: []bool{true}, Values: setsOf(t, "/0"), Steps: api.MaxCounter}, "done 1 0 1073741824\n"},
		// Whatever the other fields are.
		{api.State{Phase: api.PhaseDone, Leaf: []bool{true}, At: 8, Edge: 9, Values: setsOf(t, "/0", "/0"), Queue: []int{-1, -2, -3}, Steps: -1}, "done 0 3 0\n"},
		{api.State{Phase: api.PhaseSolve, Cone: make([]int, 1000), Steps: math.MinInt}, "solve 1000 0 0\n"},
		{api.State{Phase: api.PhaseDemand, Queue: make([]int, 257), Steps: math.MaxInt}, "demand 0 257 9223372036854775807\n"},
		{api.State{Phase: -1, Cone: []int{-1}, Queue: []int{0}, Steps: -5}, "? 1 1 0\n"},
		{api.State{Phase: math.MinInt, Steps: 1}, "? 0 0 1\n"},
		{api.State{Phase: math.MaxInt, Steps: 10}, "? 0 0 10\n"},
	} {
		if got := resume.Text(c.st); got != c.want {
			t.Errorf("the text of %v is %q, want %q", c.st, got, c.want)
		}
	}
	for phase := -300; phase <= 300; phase++ {
		name := "?"
		if phase > 0 && phase < 4 {
			name = []string{"demand", "solve", "done"}[phase-1]
		}
		if got := resume.Text(api.State{Phase: phase}); got != name+" 0 0 0\n" {
			t.Errorf("the text of the phase %d is %q", phase, got)
		}
	}
}

// P18.3: the texts of a solver after each step, for a loop of two unknowns.
func TestTextOfSteps(t *testing.T) {
	s := plain(t, 1, []int{1}, []int{0})
	s.Boundary[0] = setOf(t, "0/1")
	want := "demand 1 0 0|demand 2 0 1|demand 2 0 2|demand 2 0 3|solve 2 2 4|solve 2 1 5|solve 2 1 6|done 2 0 7|"
	st, text := solver.Start(0), ""
	for {
		text += resume.Text(st)
		next, _, err := solver.Step(s, nil, st)
		if err != api.OK {
			break
		}
		st = next
	}
	if text != strings.ReplaceAll(want, "|", "\n") {
		t.Errorf("the texts are %q", text)
	}
}

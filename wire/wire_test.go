package wire_test

import (
	"bytes"
	"encoding/binary"
	"hash/crc32"
	"math"
	"math/rand/v2"
	"testing"

	"flowquery/api"
	"flowquery/bitset"
	"flowquery/wire"
)

// edges are numbers around those that need one more byte.
func edges() []int {
	list := []int{0, api.MaxCounter, 2*api.MaxCounter + 1, math.MaxInt - 1, math.MaxInt}
	for bits := 7; bits < 63; bits += 7 {
		list = append(list, 1<<bits-1, 1<<bits, 1<<bits+1)
	}
	return list
}

// checkNumber compares the bytes of a number with those of the library, and reads it again with several limits.
func checkNumber(t *testing.T, n int) {
	t.Helper()
	b := wire.AppendNumber([]byte{7}, n)
	if want := binary.AppendUvarint([]byte{7}, uint64(n)); !bytes.Equal(b, want) {
		t.Fatalf("%d is written as %x, want %x", n, b, want)
	}
	for _, most := range []int{n, math.MaxInt, n + (math.MaxInt-n)/2} {
		r := wire.NewReader(b[1:])
		if got := r.Number(most); got != n || !r.Done() {
			t.Fatalf("%x is read as %d, %v, want %d", b[1:], got, r.Done(), n)
		}
	}
	for _, most := range []int{n - 1, n / 2, 0, -1, math.MinInt} {
		if r := wire.NewReader(b[1:]); most < n && (r.Number(most) != 0 || r.Done()) {
			t.Fatalf("%d is read as a number up to %d", n, most)
		}
	}
	for i := 1; i < len(b); i++ {
		if r := wire.NewReader(b[1:i]); r.Number(math.MaxInt) != 0 || r.Done() {
			t.Fatalf("the beginning %x of %d is read as a number", b[1:i], n)
		}
	}
	longer := append(bytes.Clone(b[1:]), 0)
	longer[len(longer)-2] |= 128
	if r := wire.NewReader(longer); r.Number(math.MaxInt) != 0 || r.Done() {
		t.Fatalf("%x, which is not of minimal length, is read as a number", longer)
	}
}

func TestNumbers(t *testing.T) {
	for n := range 1 << 16 {
		checkNumber(t, n)
	}
	for _, n := range edges() {
		checkNumber(t, n)
	}
	r := rand.New(rand.NewPCG(1, 1))
	for range 10000 {
		checkNumber(t, int(r.Uint64()>>(1+r.IntN(63))))
	}
}

// Numbers of more than 63 bits, which wrap around or are cut off if they are computed carelessly.
func TestLongNumbers(t *testing.T) {
	for _, low := range []byte{128, 129, 255} {
		for zeros := 8; zeros < 40; zeros++ {
			for high := range 256 {
				b := append(append([]byte{low}, bytes.Repeat([]byte{128}, zeros)...), byte(high), 0)
				if r := wire.NewReader(b); r.Number(math.MaxInt) != 0 || r.Number(math.MaxInt) != 0 || r.Done() {
					t.Fatalf("%x is read as a number", b)
				}
			}
		}
	}
}

func TestSets(t *testing.T) {
	r := rand.New(rand.NewPCG(1, 2))
	for width := range api.MaxWidth + 1 {
		for rare := 1; rare < 40; rare += 3 {
			var members []int
			for b := range width {
				if r.IntN(rare) == 0 {
					members = append(members, b)
				}
			}
			s, _ := bitset.Of(width, members)
			b := wire.AppendSet(nil, s)
			reader := wire.NewReader(b)
			if got := reader.Set(); !bitset.Equal(got, s) || !reader.Done() {
				t.Fatalf("%s is read as %v, %v", bitset.Text(s), got, reader.Done())
			}
			for i := range b {
				if reader = wire.NewReader(b[:i]); !bitset.Valid(reader.Set()) || reader.Done() {
					t.Fatalf("the beginning %x of %s is read as a set, or the result is not valid", b[:i], bitset.Text(s))
				}
			}
		}
	}
	for _, c := range []struct {
		text string
		want []byte
	}{{"/0", []byte{0, 0}}, {"0,3/5", []byte{5, 2, 0, 2}}, {"1,2,200/256", []byte{128, 2, 3, 1, 0, 197, 1}}} {
		s, _ := bitset.Parse(c.text)
		if got := wire.AppendSet([]byte{9}, s); !bytes.Equal(got, append([]byte{9}, c.want...)) {
			t.Errorf("%s is written as %x, want %x", c.text, got, c.want)
		}
	}
	for _, b := range [][]byte{{129, 2, 0}, {1, 2, 0, 0}, {1, 1, 1}, {3, 2, 1, 1}, {3, 3, 0, 1, 0}, {3, 2, 2, 0}, {0, 1, 0}, {3, 1, 255}, {3, 128, 0}} {
		if r := wire.NewReader(b); bitset.Count(r.Set()) > 3 || r.Done() {
			t.Errorf("%x is read as a set", b)
		}
	}
}

// After something that is not there, nothing more is read.
func TestReader(t *testing.T) {
	r := wire.NewReader([]byte{1, 2, 3, 4})
	if r.Done() || r.Number(9) != 1 || r.Number(2) != 2 || r.Done() || r.Number(2) != 0 || r.Done() {
		t.Error("3 is read as a number up to 2, or the reader is done before its end")
	}
	if r.Number(9) != 0 || bitset.Count(r.Set()) != 0 || r.Done() {
		t.Error("something is read after a number that is too large")
	}
	r = wire.NewReader(nil)
	if !r.Done() || r.Number(9) != 0 || r.Done() {
		t.Error("a number is read from no bytes")
	}
}

func TestSeal(t *testing.T) {
	for _, body := range []string{"", "a", "123456789", "\x00\x00", "abc\xff"} {
		want := binary.BigEndian.AppendUint32([]byte(body), crc32.ChecksumIEEE([]byte(body)))
		b := wire.Seal([]byte(body))
		if !bytes.Equal(b, want) || wire.Checksum([]byte(body)) != crc32.ChecksumIEEE([]byte(body)) {
			t.Errorf("%q is sealed as %x, want %x", body, b, want)
		}
		if got, err := wire.Open(b); err != api.OK || string(got) != body {
			t.Errorf("%x is opened as %q, %v", b, got, err)
		}
		for i := range 8 * len(b) {
			b[i/8] ^= 1 << (i % 8)
			if got, err := wire.Open(b); err != api.ErrChecksum || got != nil {
				t.Errorf("%x is opened as %q, %v", b, got, err)
			}
			b[i/8] ^= 1 << (i % 8)
		}
		for i := range 4 {
			if got, err := wire.Open(b[:i]); err != api.ErrTruncated || got != nil {
				t.Errorf("%x is opened as %q, %v", b[:i], got, err)
			}
		}
	}
}

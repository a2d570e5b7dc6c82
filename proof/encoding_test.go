package proof_test

import (
	"bytes"
	"encoding/binary"
	"hash/crc32"
	"math"
	"math/rand/v2"
	"slices"
	"testing"

	"flowquery/api"
	"flowquery/bitset"
	"flowquery/proof"
)

// bodyOf returns the encoding of a proof that has one, without its checksum, from the definition.
func bodyOf(p api.Proof) []byte {
	b := binary.AppendUvarint(nil, uint64(len(p.Values)))
	for n, v := range p.Values {
		members := bitset.Members(v)
		b = binary.AppendUvarint(b, uint64(v.Width))
		b = binary.AppendUvarint(b, uint64(len(members)))
		for i, m := range members {
			if i > 0 {
				m -= members[i-1] + 1
			}
			b = binary.AppendUvarint(b, uint64(m))
		}
		for _, rank := range p.Ranks[n] {
			b = binary.AppendUvarint(b, uint64(rank))
		}
	}
	return b
}

// sealed returns bytes with their checksum.
func sealed(body ...byte) []byte {
	return binary.BigEndian.AppendUint32(slices.Clone(body), crc32.ChecksumIEEE(body))
}

// checkBytes checks that a proof has an encoding, given without its checksum, and the other way round.
func checkBytes(t *testing.T, p api.Proof, body []byte) {
	t.Helper()
	want := sealed(body...)
	if got, err := proof.Encode(p); err != api.OK || !bytes.Equal(got, want) {
		t.Fatalf("the encoding of %s is %x, %v, want %x", textOf(p), got, err, want)
	}
	if got, err := proof.Decode(want); err != api.OK || !equal(got, p) {
		t.Fatalf("Decode of %x is %s, %v, want %s", want, textOf(got), err, textOf(p))
	}
}

// checkEncodeError checks that a proof has no encoding.
func checkEncodeError(t *testing.T, p api.Proof) {
	t.Helper()
	if b, err := proof.Encode(p); b != nil || err != api.ErrInvalid {
		t.Errorf("the encoding of %v is %x, %v", p, b, err)
	}
}

// checkDecodeError checks that Decode returns an error.
func checkDecodeError(t *testing.T, b []byte, want api.Errno) {
	t.Helper()
	if p, err := proof.Decode(b); p.Values != nil || p.Ranks != nil || err != want {
		t.Errorf("Decode of %x is %v, %v, want %v", b, p, err, want)
	}
}

// decoded returns the proof whose encoding, without its checksum, is given, from the definition: what the numbers say must
// have these bytes as its encoding.
func decoded(body []byte) (api.Proof, bool) {
	rest, complete := body, true
	take := func() uint64 {
		n, size := binary.Uvarint(rest)
		if size <= 0 {
			complete = false
			return 0
		}
		rest = rest[size:]
		return n
	}
	var p api.Proof
	count := take()
	for n := uint64(0); n < count && complete && count <= api.MaxNodes; n++ {
		width, size := take(), take()
		if width > api.MaxWidth || size > width {
			return api.Proof{}, false
		}
		var members, ranks []int
		next := uint64(0)
		for range size {
			next += take() + 1
			members = append(members, int(next-1))
		}
		for range size {
			ranks = append(ranks, int(take()))
		}
		v, err := bitset.Of(int(width), members)
		if err != api.OK || slices.ContainsFunc(ranks, func(rank int) bool { return rank < 0 || rank > api.MaxCounter }) {
			return api.Proof{}, false
		}
		p.Values, p.Ranks = append(p.Values, v), append(p.Ranks, ranks)
	}
	if !complete || !bytes.Equal(bodyOf(p), body) {
		return api.Proof{}, false
	}
	return p, true
}

// checkBody compares Decode with the definition, and returns whether there is a proof with this encoding.
func checkBody(t *testing.T, body []byte) bool {
	t.Helper()
	want, ok := decoded(body)
	if !ok {
		checkDecodeError(t, sealed(body...), api.ErrMalformed)
		return false
	}
	checkBytes(t, want, body)
	return true
}

// P17.3: written-out encodings.
func TestEncode(t *testing.T) {
	for _, c := range []struct {
		text string
		body []byte
	}{
		{"", []byte{0}},
		{"/0", []byte{1, 0, 0}},
		{"/5", []byte{1, 5, 0}},
		{"0:0/1", []byte{1, 1, 1, 0, 0}},
		{"1:0/2", []byte{1, 2, 1, 1, 0}},
		{"0:7,1:8,4:9/5", []byte{1, 5, 3, 0, 0, 2, 7, 8, 9}},
		{"2:3/5 /0 0:1,63:2,64:200/65", []byte{3, 5, 1, 2, 3, 0, 0, 65, 3, 0, 62, 0, 1, 2, 200, 1}},
		{"127:127,255:128/256", []byte{1, 128, 2, 2, 127, 127, 127, 128, 1}},
		{"0:16383,129:16384/200", []byte{1, 200, 1, 2, 0, 128, 1, 255, 127, 128, 128, 1}},
		{"255:1073741824/256", []byte{1, 128, 2, 1, 255, 1, 128, 128, 128, 128, 4}},
		{"0:2097151,1:2097152,2:268435455,3:268435456/4", []byte{1, 4, 4, 0, 0, 0, 0, 255, 255, 127, 128, 128, 128, 1, 255, 255, 255, 127, 128, 128, 128, 128, 1}},
	} {
		checkBytes(t, proofOf(t, c.text), c.body)
	}
	b, err := proof.Encode(proofOf(t, "0:0/1"))
	if want := []byte{1, 1, 1, 0, 0, 0x42, 0x3c, 0xd3, 0xff}; err != api.OK || !bytes.Equal(b, want) {
		t.Errorf("the encoding with its checksum is %x, %v, want %x", b, err, want)
	}
	// A proof need not be accepted, and its widths can differ.
	for rank := range 300 {
		for width := 1; width <= api.MaxWidth; width += 15 {
			v, _ := bitset.Of(width, []int{0, width / 2, width - 1})
			p := api.Proof{Values: []api.Set{v}, Ranks: [][]int{slices.Repeat([]int{rank}, bitset.Count(v))}}
			checkBytes(t, p, bodyOf(p))
		}
	}
}

// P17.3: each set of one or all members, of all widths.
func TestEncodeSets(t *testing.T) {
	var whole api.Proof
	for width := range api.MaxWidth + 1 {
		full, _ := bitset.Full(width)
		ranks := make([]int, width)
		for i := range ranks {
			ranks[i] = i * i * i * 3
		}
		p := api.Proof{Values: []api.Set{full}, Ranks: [][]int{ranks}}
		checkBytes(t, p, bodyOf(p))
		if width < api.MaxWidth {
			whole.Values, whole.Ranks = append(whole.Values, full), append(whole.Ranks, ranks)
		}
		for b := range width {
			one, _ := bitset.Of(width, []int{b})
			p = api.Proof{Values: []api.Set{one}, Ranks: [][]int{{api.MaxCounter - b}}}
			checkBytes(t, p, bodyOf(p))
		}
	}
	checkBytes(t, whole, bodyOf(whole))
}

// P17.3: as many values, members and ranks as are permitted, and one more.
func TestEncodeLimits(t *testing.T) {
	full, _ := bitset.Full(api.MaxWidth)
	ranks := slices.Repeat([]int{api.MaxCounter}, api.MaxWidth)
	p := api.Proof{Values: slices.Repeat([]api.Set{full}, api.MaxNodes), Ranks: slices.Repeat([][]int{ranks}, api.MaxNodes)}
	checkBytes(t, p, bodyOf(p))
	p.Values, p.Ranks = append(p.Values, full), append(p.Ranks, ranks)
	checkEncodeError(t, p)
	checkDecodeError(t, sealed(bodyOf(p)...), api.ErrMalformed)
	empty, _ := bitset.Empty(0)
	p = api.Proof{Values: slices.Repeat([]api.Set{empty}, api.MaxNodes), Ranks: make([][]int, api.MaxNodes)}
	checkBytes(t, p, bodyOf(p))
	p.Values, p.Ranks = append(p.Values, empty), append(p.Ranks, nil)
	checkEncodeError(t, p)
	checkDecodeError(t, sealed(bodyOf(p)...), api.ErrMalformed)
	checkEncodeError(t, api.Proof{Values: make([]api.Set, 1<<20), Ranks: make([][]int, 1<<20)})
}

// P17.3, R1, R5: proofs without an encoding, with what is wrong at each place.
func TestEncodeInvalid(t *testing.T) {
	fine := proofOf(t, "0:3,2:1/3 /3 1:2/70")
	checkBytes(t, fine, bodyOf(fine))
	change := func(change func(p *api.Proof)) {
		t.Helper()
		p := copied(fine)
		change(&p)
		checkEncodeError(t, p)
	}
	change(func(p *api.Proof) { p.Values = nil })
	change(func(p *api.Proof) { p.Ranks = nil })
	change(func(p *api.Proof) { p.Values = p.Values[:2] })
	change(func(p *api.Proof) { p.Ranks = p.Ranks[:2] })
	change(func(p *api.Proof) { p.Values = append(p.Values, setOf(t, "/3")) })
	change(func(p *api.Proof) { p.Ranks = append(p.Ranks, nil) })
	for n := range fine.Values {
		change(func(p *api.Proof) { p.Ranks[n] = append(p.Ranks[n], 1) })
		for _, bad := range []api.Set{{Width: 3}, {Width: 3, Words: []uint64{8}}, {Width: 3, Words: []uint64{0, 0}}, {Words: []uint64{0}}, {Width: -1}, {Width: -64}, {Width: 257, Words: make([]uint64, 5)}, {Width: math.MaxInt}, {Width: math.MinInt}, {Width: 70, Words: []uint64{0, 64}}} {
			change(func(p *api.Proof) { p.Values[n], p.Ranks[n] = bad, nil })
			change(func(p *api.Proof) { p.Values[n] = bad })
		}
		for i := range fine.Ranks[n] {
			change(func(p *api.Proof) { p.Ranks[n] = slices.Delete(p.Ranks[n], i, i+1) })
			for _, rank := range []int{-1, -2, -api.MaxCounter, api.MaxCounter + 1, api.MaxCounter * 2, math.MinInt32, math.MaxInt32, math.MinInt, math.MaxInt} {
				change(func(p *api.Proof) { p.Ranks[n][i] = rank })
			}
		}
	}
}

// P17.3: the order of the errors of Decode.
func TestDecodeErrors(t *testing.T) {
	for _, b := range [][]byte{nil, {}, {0}, {1}, {0, 0}, {0, 0, 0}, {255, 255, 255}, {1, 0, 0}} {
		checkDecodeError(t, b, api.ErrTruncated)
	}
	// The checksum of no bytes is 0.
	checkDecodeError(t, []byte{0, 0, 0, 0}, api.ErrMalformed)
	for _, b := range [][]byte{{0, 0, 0, 1}, {1, 0, 0, 0}, {0, 1, 0, 0}, {0, 0, 1, 0}, {255, 255, 255, 255}} {
		checkDecodeError(t, b, api.ErrChecksum)
	}
	// Each bit, also where the bytes before the checksum are no encoding.
	for _, text := range []string{"", "0:7,1:8,4:9/5 1:300/66 /0"} {
		body := bodyOf(proofOf(t, text))
		for _, body := range [][]byte{body, append(slices.Clone(body), 0), body[1:]} {
			whole := sealed(body...)
			for i := range 8 * len(whole) {
				whole[i/8] ^= 1 << (i % 8)
				checkDecodeError(t, whole, api.ErrChecksum)
				whole[i/8] ^= 1 << (i % 8)
			}
			for i := range whole {
				if short := whole[:i]; i < 4 {
					checkDecodeError(t, short, api.ErrTruncated)
				} else if binary.BigEndian.Uint32(short[i-4:]) != crc32.ChecksumIEEE(short[:i-4]) {
					checkDecodeError(t, short, api.ErrChecksum)
				}
			}
			checkDecodeError(t, append(slices.Clone(whole), 0), api.ErrChecksum)
			checkDecodeError(t, append([]byte{0}, whole...), api.ErrChecksum)
			// The least significant byte of the checksum first, which is the same if there are no bytes before it.
			if slices.Reverse(whole[len(whole)-4:]); len(body) > 0 {
				checkDecodeError(t, whole, api.ErrChecksum)
			}
		}
	}
}

// P17.3: bytes with the right checksum that are no encoding.
func TestDecodeMalformed(t *testing.T) {
	for _, body := range [][]byte{
		{}, {1}, {0, 0}, {1, 0}, {1, 0, 0, 0}, {1, 0, 1}, {1, 0, 1, 0, 0}, {2, 0, 0}, {1, 1, 1, 1, 0}, {1, 1, 1, 0}, {1, 1, 2, 0, 0, 0, 0}, {1, 3, 2, 0, 2, 0, 0}, {1, 3, 2, 2, 0, 0, 0}, {1, 3, 2, 3, 0, 0, 0},
		// The width 257, 256 members of the width 255, 257 values, a rank above MaxCounter.
		{1, 129, 2, 0}, append([]byte{1, 255, 1, 128, 2}, make([]byte, 512)...), append([]byte{129, 2}, make([]byte, 514)...), {1, 1, 1, 0, 129, 128, 128, 128, 4}, {1, 1, 1, 0, 255, 255, 255, 255, 7}, {1, 1, 1, 0, 128, 128, 128, 128, 8},
		// Numbers that are not of minimal length, or too long.
		{128, 0}, {129, 0, 0, 0}, {1, 128, 0, 0}, {1, 0, 128, 0}, {1, 1, 1, 128, 0, 0}, {1, 1, 1, 0, 128, 0}, {1, 1, 1, 0, 129, 128, 0}, {128, 128, 128, 128, 128, 128, 128, 128, 128, 128, 128, 0},
		{128}, {255}, {255, 255}, {128, 128, 128, 128, 128}, {1, 1, 1, 0, 128},
	} {
		if checkBody(t, body) {
			t.Errorf("%x is the encoding of a proof", body)
		}
	}
	// Numbers that are 0 or 1 if only their lowest 7, 14 .. 63, 64 or more bits count.
	for low := range byte(2) {
		for zeros := range 20 {
			for high := 1; high < 256; high++ {
				number := append(append([]byte{low | 128}, bytes.Repeat([]byte{128}, zeros)...), byte(high))
				for place := range 5 {
					checkBody(t, slices.Replace([]byte{1, 1, 1, 0, 0}, place, place+1, number...))
				}
			}
		}
	}
}

// P17.3: all bytes up to a length of two with a checksum, and longer ones of small numbers.
func TestDecodeShort(t *testing.T) {
	found := 0
	for length := range 3 {
		for number := range 1 << (8 * length) {
			if checkBody(t, []byte{byte(number), byte(number >> 8)}[:length]) {
				found++
			}
		}
	}
	alphabet := []byte{0, 1, 2, 3, 64, 127, 128, 129}
	for length := range 7 {
		for number := range 1 << (3 * length) {
			body := make([]byte, length)
			for i := range body {
				body[i] = alphabet[number>>(3*i)&7]
			}
			if checkBody(t, body) {
				found++
			}
		}
	}
	if found < 100 {
		t.Errorf("only %d are encodings", found)
	}
}

// P17.3: generated proofs, their beginnings, and changes of their bytes.
func TestGeneratedBytes(t *testing.T) {
	r := rand.New(rand.NewPCG(17, 7))
	valid, changes := 0, 0
	for range 300 {
		var p api.Proof
		for range r.IntN(8) {
			q := someProof(r, r.IntN(1<<r.IntN(9)+1), 1)
			p.Values, p.Ranks = append(p.Values, q.Values...), append(p.Ranks, q.Ranks...)
		}
		body := bodyOf(p)
		checkBytes(t, p, body)
		for i := range min(len(body), 200) {
			if checkBody(t, body[:i]) {
				t.Errorf("the beginning %x of %x is an encoding, too", body[:i], body)
			}
		}
		for range 100 {
			other := slices.Clone(body)
			i := r.IntN(len(other))
			switch r.IntN(5) {
			case 0:
				other[i] = byte(r.IntN(256))
			case 1:
				other[i] ^= 1 << r.IntN(8)
			case 2:
				other = slices.Insert(other, i, byte(r.IntN(256)))
			case 3:
				other = slices.Delete(other, i, i+1)
			case 4:
				other = append(other, byte(r.IntN(3)))
			}
			changes++
			if checkBody(t, other) {
				valid++
			}
		}
	}
	if valid < 1000 || changes-valid < 1000 {
		t.Errorf("of %d changes, %d are encodings", changes, valid)
	}
}

// P17.3: the checksum.
func TestChecksum(t *testing.T) {
	for _, c := range []struct {
		text string
		want uint32
	}{{"", 0}, {"a", 0xe8b7be43}, {"123456789", 0xcbf43926}, {"The quick brown fox jumps over the lazy dog", 0x414fa339}, {"\x00\x00\x00\x00", 0x2144df1c}, {"\xff\xff\xff\xff", 0xffffffff}} {
		if got := proof.Checksum([]byte(c.text)); got != c.want {
			t.Errorf("the checksum of %q is %08x, want %08x", c.text, got, c.want)
		}
	}
	if proof.Checksum(nil) != 0 {
		t.Error("the checksum of a nil slice is not 0")
	}
	r := rand.New(rand.NewPCG(17, 8))
	for length := range 300 {
		for range 20 {
			b := make([]byte, length)
			for i := range b {
				b[i] = byte(r.IntN(256))
			}
			if got, want := proof.Checksum(b), crc32.ChecksumIEEE(b); got != want {
				t.Fatalf("the checksum of %x is %08x, want %08x", b, got, want)
			}
		}
	}
	for first := range 256 {
		for second := range 256 {
			if b := []byte{byte(first), byte(second)}; proof.Checksum(b) != crc32.ChecksumIEEE(b) || proof.Checksum(b[:1]) != crc32.ChecksumIEEE(b[:1]) {
				t.Fatalf("the checksum of %x is %08x", b, proof.Checksum(b))
			}
		}
	}
	long := bytes.Repeat([]byte("0123456789abcdef"), 1<<16)
	if proof.Checksum(long) != crc32.ChecksumIEEE(long) {
		t.Error("the checksum of a long list is wrong")
	}
	long[1<<19] ^= 1
	if proof.Checksum(long) != crc32.ChecksumIEEE(long) {
		t.Error("the checksum of a long list with another byte is wrong")
	}
}

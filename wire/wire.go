// Package wire writes numbers and sets as bytes, and reads them: these are the parts that the encodings of several layers
// consist of. See ../../shared/doc/17-proof.md and ../../shared/doc/18-resume.md.
package wire

import (
	"flowquery/api"
	"flowquery/bitset"
)

const (
	more     = 0x80 // is added to each byte of a number but the last one
	digit    = 7    // bits of a number in a byte
	maxBytes = 9    // bytes of the largest int64

	sumBytes   = 4
	polynomial = 0xEDB88320
)

// AppendNumber returns b with the unsigned LEB128 number n of minimal length. n must not be negative.
func AppendNumber(b []byte, n int) []byte {
	rest := uint64(n)
	for rest >= more {
		b = append(b, byte(rest)|more)
		rest >>= digit
	}
	return append(b, byte(rest))
}

// AppendSet returns b with the width, the number of members and the members of the valid set s.
func AppendSet(b []byte, s api.Set) []byte {
	members := bitset.Members(s)
	b = AppendNumber(b, s.Width)
	b = AppendNumber(b, len(members))
	next := 0
	for _, m := range members {
		b = AppendNumber(b, m-next)
		next = m + 1
	}
	return b
}

// Checksum returns the CRC-32 of IEEE 802.3.
func Checksum(b []byte) uint32 {
	sum := ^uint32(0)
	for _, c := range b {
		sum ^= uint32(c)
		for range 8 {
			// The polynomial counts where the lowest bit is 1: the negative of 1 has all bits, and that of 0 none.
			sum = sum>>1 ^ polynomial&-(sum&1)
		}
	}
	return ^sum
}

// Seal returns b with its checksum.
func Seal(b []byte) []byte {
	sum := Checksum(b)
	return append(b, byte(sum>>24), byte(sum>>16), byte(sum>>8), byte(sum))
}

// Open returns the bytes before the checksum of b, which are a part of b.
func Open(b []byte) ([]byte, api.Errno) {
	if len(b) < sumBytes {
		return nil, api.ErrTruncated
	}
	body, end := b[:len(b)-sumBytes], b[len(b)-sumBytes:]
	sum := uint32(end[0])<<24 | uint32(end[1])<<16 | uint32(end[2])<<8 | uint32(end[3])
	if sum != Checksum(body) {
		return nil, api.ErrChecksum
	}
	return body, api.OK
}

// Reader reads numbers and sets from bytes. After something that was not there it reads nothing more, so it is enough to ask
// in the end whether all was there.
type Reader struct {
	rest   []byte
	failed bool
}

// NewReader returns a reader of b.
func NewReader(b []byte) *Reader { return &Reader{rest: b} }

// Done reports whether all that was read was there, and nothing is left.
func (r *Reader) Done() bool { return !r.failed && len(r.rest) == 0 }

// Number reads a number from 0 to most, and returns 0 if there is none.
func (r *Reader) Number(most int) int {
	var n int64
	for i, c := range r.rest[:min(len(r.rest), maxBytes)] {
		n |= int64(c&^more) << (digit * i)
		if c >= more {
			continue
		}
		if i > 0 && c == 0 || n > int64(most) {
			break
		}
		r.rest = r.rest[i+1:]
		return int(n)
	}
	r.rest, r.failed = nil, true
	return 0
}

// Set reads a set.
func (r *Reader) Set() api.Set {
	width := r.Number(api.MaxWidth)
	members := make([]int, r.Number(width))
	next := 0
	for i := range members {
		members[i] = next + r.Number(width-1-next)
		next = members[i] + 1
	}
	s, _ := bitset.Of(width, members)
	return s
}

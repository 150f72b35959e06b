// Package digits is layer 2: variable-length integers and length-prefixed
// strings as bytes. The reader for them is in tape.go.
package digits

import (
	"bytes"
	"math/bits"
	"slices"

	"anabranch/api"
)

// Most is how many bytes Lay appends at most.
const Most = 10

const (
	group = 7    // bits of a number in each byte that Lay appends
	more  = 0x80 // set in each of these bytes that another one follows
	tenth = 1    // the greatest value of the tenth one, which has bit 63 alone
	fixed = 8    // bytes of a number that LayFixed appends
	octet = 8    // bits of a number in each of these
)

// Lay appends n to p, in as few bytes as possible, the lowest bits first.
//
// Lay, LayText and LayFixed return memory of their own: in the spare capacity
// of p, what they append would overwrite what was appended to p before. As
// they copy p, a long encoding is better put together from short pieces.
func Lay(p []byte, n uint64) []byte {
	return layOn(roomy(p, Size(n)), n)
}

// Size returns the number of bytes that Lay appends for n.
func Size(n uint64) int {
	return (bits.Len64(n|1) + group - 1) / group
}

// Take returns the number at the beginning of p, and what follows it. Every
// number has one encoding only: ErrForm, if there is a shorter one.
func Take(p []byte) (uint64, []byte, api.Errno) {
	p = slices.Clip(p) // so that appending to the remainder does not write behind p
	n := uint64(0)
	for i, b := range p {
		if i > 0 && b == 0 || i == Most-1 && b > tenth {
			return 0, p, api.ErrForm
		}
		n |= uint64(b&^more) << (group * i)
		if b&more == 0 {
			return n, p[i+1:], api.OK
		}
	}
	return 0, p, api.ErrShort
}

// LayText appends the length of text, and text, to p.
func LayText(p, text []byte) []byte {
	n := uint64(len(text))
	return append(layOn(roomy(p, Size(n)+len(text)), n), text...)
}

// TakeText returns the text at the beginning of p, of at most most bytes, and
// what follows it. A text that is too long is ErrLong, whether or not all of
// it is there.
func TakeText(p []byte, most int) ([]byte, []byte, api.Errno) {
	n, rest, e := Take(p)
	switch {
	case e != api.OK:
		return nil, rest, e
	case most < 0 || n > uint64(most):
		return nil, slices.Clip(p), api.ErrLong
	case n > uint64(len(rest)):
		return nil, slices.Clip(p), api.ErrShort
	}
	return slices.Clip(bytes.Clone(rest[:n])), rest[n:], api.OK
}

// LayFixed appends n to p in eight bytes, the highest first.
func LayFixed(p []byte, n uint64) []byte {
	p = roomy(p, fixed)
	for i := range fixed {
		p = append(p, byte(n>>(octet*(fixed-1-i))))
	}
	return p
}

// List returns the numbers whose encodings, one after the other, are p.
func List(p []byte) (all []uint64, e api.Errno) {
	defer Caught(&e)
	var read []uint64 // not all itself: it must be empty if the tape gives up
	for t := NewTape(p); len(t.rest) > 0; {
		read = append(read, t.Num(1<<64-1))
	}
	return read, api.OK
}

// roomy returns a copy of p with room for n further bytes.
func roomy(p []byte, n int) []byte {
	return append(make([]byte, 0, len(p)+n), p...)
}

// layOn appends n to p, in p's own memory.
func layOn(p []byte, n uint64) []byte {
	for ; n >= more; n >>= group {
		p = append(p, byte(n)|more)
	}
	return append(p, byte(n))
}

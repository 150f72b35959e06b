package digits

import (
	"slices"

	"anabranch/api"
)

// Tape reads bytes from the front. At an error its methods panic, and the tape
// stays where it was: a reader of many parts defers Caught, and does not ask
// for an error after each of them. A nil tape has no bytes.
type Tape struct {
	rest []byte
}

// fault is what a tape panics with. It is a type of its own so that Caught
// does not take another panic for an error of the tape.
type fault struct {
	e api.Errno
}

// NewTape returns a tape that reads p, which it shares.
func NewTape(p []byte) *Tape {
	return &Tape{slices.Clip(p)}
}

// Num reads a number (Take), which is at most most.
func (t *Tape) Num(most uint64) uint64 {
	n, rest, e := Take(t.Left())
	if e == api.OK && n > most {
		e = api.ErrLong
	}
	t.move(rest, e)
	return n
}

// Text reads a text (TakeText) of at most most bytes.
func (t *Tape) Text(most int) []byte {
	text, rest, e := TakeText(t.Left(), most)
	t.move(rest, e)
	return text
}

// Byte reads a byte.
func (t *Tape) Byte() byte {
	return t.next(1)[0]
}

// Fixed reads a number that LayFixed has laid.
func (t *Tape) Fixed() uint64 {
	n := uint64(0)
	for _, b := range t.next(fixed) {
		n = n<<octet | uint64(b)
	}
	return n
}

// Done gives up if something is left.
func (t *Tape) Done() {
	if len(t.Left()) > 0 {
		panic(fault{api.ErrForm})
	}
}

// Left returns what was not read.
func (t *Tape) Left() []byte {
	if t == nil {
		return nil
	}
	return t.rest
}

// Caught, deferred by the reader of a tape, stores in e the error at which a
// tape gave up. Any other panic is none of its business and goes on.
func Caught(e *api.Errno) {
	switch x := recover().(type) {
	case nil:
	case fault:
		if e != nil {
			*e = x.e
		}
	default:
		panic(x)
	}
}

// next reads n bytes.
func (t *Tape) next(n int) []byte {
	p := t.Left()
	if len(p) < n {
		panic(fault{api.ErrShort})
	}
	t.move(p[n:], api.OK)
	return p[:n]
}

// move lets the tape go on at rest, or gives up if there is an error. (A nil
// tape has always given up: it has nothing to read.)
func (t *Tape) move(rest []byte, e api.Errno) {
	if e != api.OK {
		panic(fault{e})
	}
	t.rest = rest
}

package fold

import (
	"anabranch/api"
	"anabranch/digits"
	"anabranch/quantity"
	"anabranch/vector"
)

// Encode returns a fold as bytes.
func (f *Fold) Encode() []byte {
	if f == nil {
		return nil
	}
	p := f.Have().Bytes()
	p = digits.Lay(p, f.last.Time)
	p = digits.Lay(p, uint64(f.last.Writer))
	p = digits.LayFixed(p, f.joined.mask())
	p = digits.LayFixed(p, f.retired.mask())
	p = digits.LayFixed(p, f.mark)
	p = digits.Lay(p, uint64(len(f.cells)))
	for _, key := range f.Keys() {
		p = append(p, layCell(key, f.cells[key])...) // p is memory of its own, and digits would copy all of it for each key
	}
	return p
}

// Decode returns the fold whose encoding is p. ErrForm, ErrShort, ErrLong: p is
// no encoding. Whether there are events that lead to it is not examined.
func Decode(p []byte) (f *Fold, e api.Errno) {
	defer digits.Caught(&e)
	t := digits.NewTape(p)
	read, ok := take(t) // not f itself: it must be nil if the tape gives up
	if !ok {
		return nil, api.ErrForm
	}
	t.Done()
	return read, api.OK
}

// layCell returns a key and its value as bytes.
func layCell(key string, c api.Cell) []byte {
	p := append(digits.LayText(nil, []byte(key)), c.Kind)
	if c.Kind == api.Set {
		return digits.LayText(p, c.Text)
	}
	return digits.LayFixed(p, quantity.Bits(c.Num))
}

// take reads a fold, and returns false at what Encode writes for none. The tape
// gives up at what it cannot read.
func take(t *digits.Tape) (*Fold, bool) {
	f := New(0)
	have := vector.Read(t)
	if len(have.Trim()) < len(have) {
		return nil, false
	}
	copy(f.have[:], have)
	f.last = api.Spot{Time: t.Num(api.End), Writer: int(t.Num(api.MaxNodes - 1))}
	f.joined, f.retired, f.mark = setOf(t.Fixed()), setOf(t.Fixed()), t.Fixed()
	before := "" // which is no key
	for range t.Num(api.End) {
		key := string(t.Text(api.MaxKey))
		if key <= before {
			return nil, false
		}
		c, ok := takeCell(t)
		if !ok {
			return nil, false
		}
		f.cells[key], before = c, key
	}
	return f, true
}

// takeCell reads the value of a key, and returns false if no key has it.
func takeCell(t *digits.Tape) (api.Cell, bool) {
	switch t.Byte() {
	case api.Set:
		return api.Cell{Kind: api.Set, Text: t.Text(api.MaxText)}, true
	case api.Put:
		num, ok := quantity.Of(t.Fixed())
		return api.Cell{Kind: api.Put, Num: num}, ok
	}
	return api.Cell{}, false
}

// mask returns the number whose bit n is set for each node n of the set.
func (s set) mask() uint64 {
	m := uint64(0)
	for n, in := range s {
		if in {
			m |= 1 << n
		}
	}
	return m
}

// setOf returns the set whose mask is m.
func setOf(m uint64) set {
	var s set
	for n := range s {
		s[n] = m>>n&1 == 1
	}
	return s
}

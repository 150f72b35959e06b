package vector_test

import (
	"encoding/binary"
	"math/rand"
	"slices"
	"strings"
	"testing"

	"anabranch/api"
	"anabranch/digits"
	"anabranch/vector"
)

const (
	end   = "\xff\xff\xff\xff\xff\xff\xff\xff\x7f"     // End
	above = "\x80\x80\x80\x80\x80\x80\x80\x80\x80\x01" // End + 1
	most  = "\xff\xff\xff\xff\xff\xff\xff\xff\xff\x01" // the greatest number
	tall  = "\xff\xff\xff\xff\xff\xff\xff\xff\xff\x02" // more than 64 bits
)

// laid returns what P7.2 says Bytes returns, made without the program's packages.
func laid(v vector.Vector) string {
	v = trimmed(v)
	p := binary.AppendUvarint(nil, uint64(len(v)))
	for _, n := range v {
		p = binary.AppendUvarint(p, n)
	}
	return string(p)
}

// read returns what Read reads from a tape, and the error at which it gives up.
func read(tape *digits.Tape) (v vector.Vector, e api.Errno) {
	defer digits.Caught(&e)
	return vector.Read(tape), api.OK
}

// The tests of P7.2.

func TestLayAndBytes(t *testing.T) {
	for _, c := range []struct {
		v    vector.Vector
		want string
	}{
		{nil, "\x00"},
		{vector.Vector{}, "\x00"},
		{vector.Vector{0}, "\x00"},
		{vector.Vector{0, 0, 0}, "\x00"},
		{vector.Vector{1, 2}, "\x02\x01\x02"},
		{vector.Vector{1, 2, 0}, "\x02\x01\x02"},
		{vector.Vector{0, 0, 5, 0, 6, 0}, "\x05\x00\x00\x05\x00\x06"},
		{vector.Vector{127, 128, 300}, "\x03\x7f\x80\x01\xac\x02"},
		{vector.Vector{api.End}, "\x01" + end},
		{lone(64, 63, 1), "\x40" + strings.Repeat("\x00", 63) + "\x01"},
		{lone(64, 62, 1), "\x3f" + strings.Repeat("\x00", 62) + "\x01"},
	} {
		if got := string(c.v.Bytes()); got != c.want {
			t.Errorf("%v.Bytes() = %q, want %q", c.v, got, c.want)
		}
	}
	for _, v := range samples() {
		for _, p := range []string{"", "\x00", "before", strings.Repeat("x", 200)} {
			if got := string(v.Lay([]byte(p))); got != p+laid(v) {
				t.Errorf("%v.Lay(%q) = %q", v, p, got)
			}
		}
		if got, none := string(v.Bytes()), string(v.Lay(nil)); got != laid(v) || none != got {
			t.Errorf("%v: Bytes() = %q, Lay(nil) = %q", v, got, none)
		}
	}
}

func TestOfIsTheInverseOfBytes(t *testing.T) {
	for _, v := range samples() {
		got, e := vector.Of([]byte(laid(v)))
		if e != api.OK {
			t.Errorf("Of(%q): %d", laid(v), e)
		}
		wantVector(t, "Of", got, trimmed(v))
	}
}

// wantNone checks that Of refuses p with this error, and returns nothing else.
func wantNone(t *testing.T, p string, want api.Errno) {
	t.Helper()
	if v, e := vector.Of([]byte(p)); e != want || len(v) != 0 {
		t.Errorf("Of(%q) = %v, %d, want the error %d", p, v, e, want)
	}
}

// TestOfWhatIsCutOff: no encoding is the beginning of another one.
func TestOfWhatIsCutOff(t *testing.T) {
	for _, v := range samples() {
		p := laid(v)
		for i := range p {
			wantNone(t, p[:i], api.ErrShort)
		}
	}
}

func TestOfWithBytesBehind(t *testing.T) {
	for _, v := range samples() {
		for _, tail := range []string{"\x00", "\x01", "\x80", "\x80\x00", above, laid(v)} {
			wantNone(t, laid(v)+tail, api.ErrForm)
		}
	}
}

// TestOfWithALastZero: what Lay trims is refused.
func TestOfWithALastZero(t *testing.T) {
	for n := range 64 {
		wantNone(t, string(rune(n+1))+strings.Repeat("\x00", n+1), api.ErrForm)
		wantNone(t, string(rune(n+1))+strings.Repeat("\x05", n)+"\x00", api.ErrForm)
	}
	wantNone(t, "\x02"+end+"\x00", api.ErrForm)
	wantNone(t, "\x01\x00\x00", api.ErrForm)
}

func TestOfAtTheLimits(t *testing.T) {
	for _, c := range []struct {
		p    string
		want vector.Vector
		e    api.Errno
	}{
		{"\x3f" + strings.Repeat("\x01", 63), vector.Vector(slices.Repeat([]uint64{1}, 63)), api.OK},
		{"\x40" + strings.Repeat("\x01", 64), vector.Vector(slices.Repeat([]uint64{1}, 64)), api.OK},
		{"\x40" + strings.Repeat(end, 64), vector.Vector(slices.Repeat([]uint64{api.End}, 64)), api.OK},
		{"\x41" + strings.Repeat("\x01", 65), nil, api.ErrLong},
		{"\x41", nil, api.ErrLong},
		{"\x80\x01" + strings.Repeat("\x01", 128), nil, api.ErrLong},
		{above, nil, api.ErrLong},
		{most, nil, api.ErrLong},
		{tall, nil, api.ErrForm},
		{"\x01" + end, vector.Vector{api.End}, api.OK},
		{"\x01" + above, nil, api.ErrLong},
		{"\x01" + most, nil, api.ErrLong},
		{"\x01" + tall, nil, api.ErrForm},
		{"\x02" + above + "\x01", nil, api.ErrLong},
		{"\x02\x01" + above, nil, api.ErrLong},
		{"\x40" + strings.Repeat("\x01", 63) + above, nil, api.ErrLong},
		{"\x81\x00\x01", nil, api.ErrForm},
		{"\x01\x81\x00", nil, api.ErrForm},
		{"\x01\x80\x00", nil, api.ErrForm},
		{"\x02\x80\x00\x01", nil, api.ErrForm},
	} {
		got, e := vector.Of([]byte(c.p))
		if e != c.e {
			t.Errorf("Of(%q): %d, want %d", c.p, e, c.e)
		}
		wantVector(t, "Of", got, c.want)
	}
}

// TestOfReturnsTheFirstError: it reads from the front, and examines the last number when all has been read.
func TestOfReturnsTheFirstError(t *testing.T) {
	wantNone(t, "\x41\x80\x00", api.ErrLong)
	wantNone(t, "\x02"+above, api.ErrLong)
	wantNone(t, "\x02"+above+"\x80\x00", api.ErrLong)
	wantNone(t, "\x01"+above+"\x00", api.ErrLong)
	wantNone(t, "\x02"+tall+above, api.ErrForm)
	wantNone(t, "\x02\x00", api.ErrShort)
}

// TestOfAcceptsEncodingsOnly: whatever the bytes are, what Of accepts is what Bytes returns.
func TestOfAcceptsEncodingsOnly(t *testing.T) {
	for n := range 1 << 16 {
		wantExact(t, []byte{byte(n), byte(n >> 8)})
		wantExact(t, []byte{2, byte(n), byte(n >> 8)})
	}
	r := rand.New(rand.NewSource(72))
	for range 100000 {
		p := make([]byte, r.Intn(24))
		r.Read(p)
		if len(p) > 0 {
			p[0] %= 8
		}
		wantExact(t, p)
	}
}

// wantExact checks that Of accepts p only as the encoding of a vector, and answers every other p with an error of P7.2.
func wantExact(t *testing.T, p []byte) {
	t.Helper()
	v, e := vector.Of(p)
	switch e {
	case api.OK:
		if laid(v) != string(p) || len(v) > api.MaxNodes || len(v) > 0 && slices.Max(v) > api.End {
			t.Errorf("Of(%q) = %v", p, v)
		}
	case api.ErrForm, api.ErrShort, api.ErrLong:
		if len(v) != 0 {
			t.Errorf("Of(%q) = %v, %d", p, v, e)
		}
	default:
		t.Errorf("Of(%q): %d", p, e)
	}
}

func TestReadTwoFromOneTape(t *testing.T) {
	for _, a := range samples() {
		for _, b := range samples() {
			tape := digits.NewTape([]byte(laid(a) + laid(b) + "rest"))
			x, first := read(tape)
			y, second := read(tape)
			if first != api.OK || second != api.OK || string(tape.Left()) != "rest" {
				t.Fatalf("%v, %v: %d, %d, %q is left", a, b, first, second, tape.Left())
			}
			wantVector(t, "the first", x, trimmed(a))
			wantVector(t, "the second", y, trimmed(b))
		}
	}
}

// TestReadKeepsZeros: those who read vectors with other things refuse a last zero themselves.
func TestReadKeepsZeros(t *testing.T) {
	for _, v := range []vector.Vector{{0}, {1, 0}, {0, 0, 0}, {0, 5, 0, 0}} {
		p := digits.Lay(nil, uint64(len(v)))
		for _, n := range v {
			p = digits.Lay(p, n)
		}
		got, e := read(digits.NewTape(p))
		if e != api.OK {
			t.Errorf("Read of %q: %d", p, e)
		}
		wantVector(t, "Read", got, v)
	}
}

func TestReadGivesUp(t *testing.T) {
	for _, c := range []struct {
		p    string
		want api.Errno
	}{
		{"", api.ErrShort},
		{"\x80", api.ErrShort},
		{"\x01", api.ErrShort},
		{"\x02\x01\x80", api.ErrShort},
		{"\x80\x00", api.ErrForm},
		{"\x02\x01\x80\x00", api.ErrForm},
		{"\x01" + tall, api.ErrForm},
		{"\x41" + strings.Repeat("\x01", 65), api.ErrLong},
		{most, api.ErrLong},
		{"\x01" + above, api.ErrLong},
	} {
		if v, e := read(digits.NewTape([]byte(c.p))); e != c.want || len(v) != 0 {
			t.Errorf("Read of %q = %v, %d, want the error %d", c.p, v, e, c.want)
		}
	}
}

// The tests of P1 and P2.

// TestNoBytes is P1: no tape and no bytes at all are as good as empty ones.
func TestNoBytes(t *testing.T) {
	for _, tape := range []*digits.Tape{nil, {}, digits.NewTape(nil)} {
		if v, e := read(tape); e != api.ErrShort || len(v) != 0 {
			t.Errorf("Read = %v, %d", v, e)
		}
	}
	for _, p := range [][]byte{nil, {}} {
		if v, e := vector.Of(p); e != api.ErrShort || len(v) != 0 {
			t.Errorf("Of = %v, %d", v, e)
		}
	}
}

// TestAnyNumbers is P1: vectors that have no encoding can be laid, too.
func TestAnyNumbers(t *testing.T) {
	for _, v := range wide() {
		vector.Of(v.Bytes())
		if p := v.Lay([]byte("before")); string(p[:6]) != "before" {
			t.Errorf("%.20q", p)
		}
	}
}

// TestMemoryOfEncodings is the rule on memory, for bytes.
func TestMemoryOfEncodings(t *testing.T) {
	v := vector.Vector{1, 2, 0}
	whole := []byte("before and behind")
	for _, n := range []int{0, 6} {
		p := v.Lay(whole[:n])
		q := (vector.Vector{8, 8, 8, 8, 8, 8, 8}).Lay(whole[:n])
		_ = append(p, "PPPPPPPP"...)
		_ = append(q, "QQQQQQQQ"...)
		if string(p) != "before"[:n]+"\x02\x01\x02" || string(whole) != "before and behind" {
			t.Errorf("%q, %q", p, whole)
		}
		clear(p)
		clear(q)
		if string(whole) != "before and behind" {
			t.Errorf("%q", whole)
		}
	}
	wantVector(t, "Lay", v, vector.Vector{1, 2, 0})
	p := v.Bytes()
	x, e := vector.Of(p)
	clear(p)
	if e != api.OK {
		t.Errorf("%d", e)
	}
	wantVector(t, "Of", x, vector.Vector{1, 2})
	x[0] = 9
	wantVector(t, "Bytes", v, vector.Vector{1, 2, 0})
}

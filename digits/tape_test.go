package digits_test

import (
	"bytes"
	"math"
	"testing"

	"anabranch/api"
	"anabranch/digits"
)

// caught returns the error at which read gives up.
func caught(read func()) (e api.Errno) {
	defer digits.Caught(&e)
	read()
	return api.OK
}

// The tests of P2.2.

func TestTapeReadsWhatIsLaid(t *testing.T) {
	for _, n := range numbers() {
		p := digits.Lay(nil, n)
		p = digits.LayText(p, []byte("text"))
		p = append(p, 0xfe)
		p = digits.LayFixed(p, n)
		p = digits.LayText(p, nil)
		e := caught(func() {
			x := digits.NewTape(p)
			if got := x.Num(n); got != n {
				t.Errorf("Num = %d, want %d", got, n)
			}
			if got := x.Text(4); string(got) != "text" {
				t.Errorf("Text = %q", got)
			}
			if got := x.Byte(); got != 0xfe {
				t.Errorf("Byte = %x", got)
			}
			if got := x.Left(); !bytes.Equal(got, p[len(p)-9:]) {
				t.Errorf("Left = % x", got)
			}
			if got := x.Fixed(); got != n {
				t.Errorf("Fixed = %d, want %d", got, n)
			}
			if got := x.Text(0); len(got) != 0 {
				t.Errorf("Text = %q", got)
			}
			if len(x.Left()) != 0 {
				t.Errorf("Left = % x", x.Left())
			}
			x.Done()
		})
		if e != api.OK {
			t.Errorf("%d: %d", n, e)
		}
	}
}

func TestTapeGivesUp(t *testing.T) {
	num := func(most uint64) func(x *digits.Tape) { return func(x *digits.Tape) { x.Num(most) } }
	text := func(most int) func(x *digits.Tape) { return func(x *digits.Tape) { x.Text(most) } }
	one := func(x *digits.Tape) { x.Byte() }
	fixed := func(x *digits.Tape) { x.Fixed() }
	done := (*digits.Tape).Done
	for _, c := range []struct {
		name string
		p    string
		read func(x *digits.Tape)
		want api.Errno
	}{
		{"Num", "", num(9), api.ErrShort},
		{"Num", "\x80", num(9), api.ErrShort},
		{"Num", "\x80\x00", num(9), api.ErrForm},
		{"Num", "\x0a", num(9), api.ErrLong},
		{"Num", "\x01", num(0), api.ErrLong},
		{"Num", "\xff\xff\xff\xff\xff\xff\xff\xff\xff\x01", num(math.MaxUint64 - 1), api.ErrLong},
		{"Num", "\xff\xff\xff\xff\xff\xff\xff\xff\xff\x02", num(math.MaxUint64), api.ErrForm},
		{"Text", "", text(9), api.ErrShort},
		{"Text", "\x02h", text(9), api.ErrShort},
		{"Text", "\x82\x00hi", text(9), api.ErrForm},
		{"Text", "\x02hi", text(1), api.ErrLong},
		{"Text", "\x00", text(-1), api.ErrLong},
		{"Byte", "", one, api.ErrShort},
		{"Fixed", "", fixed, api.ErrShort},
		{"Fixed", "1234567", fixed, api.ErrShort},
		{"Done", "\x00", done, api.ErrForm},
		{"Done", "rest", done, api.ErrForm},
	} {
		x := digits.NewTape([]byte(c.p))
		if e := caught(func() { c.read(x) }); e != c.want {
			t.Errorf("%s of %q: %d, want %d", c.name, c.p, e, c.want)
		}
		if string(x.Left()) != c.p {
			t.Errorf("%s of %q: %q is left", c.name, c.p, x.Left())
		}
	}
}

func TestTapeAtTheLimits(t *testing.T) {
	e := caught(func() {
		x := digits.NewTape([]byte("\x09\xac\x02\x02hi\x00"))
		if n, m, s := x.Num(9), x.Num(300), string(x.Text(2)); n != 9 || m != 300 || s != "hi" {
			t.Errorf("%d, %d, %q", n, m, s)
		}
		if n := x.Num(0); n != 0 {
			t.Errorf("%d", n)
		}
		x.Done()
	})
	if e != api.OK {
		t.Errorf("%d", e)
	}
}

// TestTapeGoesOnAfterAnError: an error takes nothing from the tape.
func TestTapeGoesOnAfterAnError(t *testing.T) {
	x := digits.NewTape([]byte("\x02hi"))
	for _, read := range []func(){
		func() { x.Num(1) },
		func() { x.Text(1) },
		func() { x.Fixed() },
		x.Done,
	} {
		if e := caught(read); e == api.OK {
			t.Error("no error")
		}
	}
	if e := caught(func() {
		if s := x.Text(2); string(s) != "hi" {
			t.Errorf("%q", s)
		}
		x.Done()
	}); e != api.OK {
		t.Errorf("%d", e)
	}
}

// TestNilTapeIsEmpty is P1: no object at all is no reason for another panic.
func TestNilTapeIsEmpty(t *testing.T) {
	var none *digits.Tape
	for _, x := range []*digits.Tape{none, digits.NewTape(nil), digits.NewTape([]byte{})} {
		if len(x.Left()) != 0 || caught(x.Done) != api.OK {
			t.Error("something is left")
		}
		for i, read := range []func(){
			func() { x.Num(math.MaxUint64) },
			func() { x.Text(math.MaxInt) },
			func() { x.Byte() },
			func() { x.Fixed() },
		} {
			if e := caught(read); e != api.ErrShort {
				t.Errorf("%d: %d", i, e)
			}
		}
	}
}

func TestCaughtWithoutAnError(t *testing.T) {
	e := api.ErrGap
	func() {
		defer digits.Caught(&e)
		digits.NewTape([]byte{1}).Byte()
	}()
	if e != api.ErrGap {
		t.Errorf("%d", e)
	}
	digits.Caught(&e)
	digits.Caught(nil)
}

func TestCaughtWithoutAPlace(t *testing.T) {
	defer digits.Caught(nil)
	digits.NewTape(nil).Byte()
}

// TestCaughtLeavesOtherPanics: what is not an error of a tape goes on.
func TestCaughtLeavesOtherPanics(t *testing.T) {
	for _, want := range []any{"other", 5, api.ErrShort} {
		e := api.OK
		got := func() (got any) {
			defer func() { got = recover() }()
			defer digits.Caught(&e)
			panic(want)
		}()
		if got != want || e != api.OK {
			t.Errorf("%v became %v, %d", want, got, e)
		}
	}
}

// TestTapesAreIndependent is P2: what a tape returns depends on its own
// earlier calls alone.
func TestTapesAreIndependent(t *testing.T) {
	p := []byte("\x01\x02\x03\x04")
	e := caught(func() {
		x, y := digits.NewTape(p), digits.NewTape(p)
		for want := range uint64(4) {
			if n, b := x.Num(9), y.Byte(); n != want+1 || uint64(b) != want+1 {
				t.Errorf("%d, %d, want %d", n, b, want+1)
			}
			if e := caught(func() { digits.NewTape(nil).Byte() }); e != api.ErrShort {
				t.Errorf("%d", e)
			}
		}
		x.Done()
		y.Done()
	})
	if e != api.OK || string(p) != "\x01\x02\x03\x04" {
		t.Errorf("%d, % x", e, p)
	}
}

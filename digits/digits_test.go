package digits_test

import (
	"bytes"
	"encoding/binary"
	"math"
	"slices"
	"strings"
	"testing"

	"anabranch/api"
	"anabranch/digits"
)

// numbers holds 0, and the numbers around each power of two.
func numbers() []uint64 {
	l := []uint64{0, math.MaxUint64}
	for i := range 64 {
		p := uint64(1) << i
		l = append(l, p-1, p, p+1)
	}
	return l
}

// The tests of P2.1.

func TestLay(t *testing.T) {
	for _, c := range []struct {
		n    uint64
		want string
	}{
		{0, "\x00"},
		{1, "\x01"},
		{127, "\x7f"},
		{128, "\x80\x01"},
		{300, "\xac\x02"},
		{16383, "\xff\x7f"},
		{16384, "\x80\x80\x01"},
		{api.End, "\xff\xff\xff\xff\xff\xff\xff\xff\x7f"},
		{1 << 63, "\x80\x80\x80\x80\x80\x80\x80\x80\x80\x01"},
		{math.MaxUint64, "\xff\xff\xff\xff\xff\xff\xff\xff\xff\x01"},
	} {
		if got := digits.Lay(nil, c.n); string(got) != c.want {
			t.Errorf("Lay(%d) = % x, want % x", c.n, got, c.want)
		}
		if got := digits.Lay([]byte("ab"), c.n); string(got) != "ab"+c.want {
			t.Errorf("Lay(ab, %d) = % x", c.n, got)
		}
	}
}

func TestLaySizeAndTakeOfManyNumbers(t *testing.T) {
	for _, n := range numbers() {
		p := digits.Lay(nil, n)
		if want := binary.AppendUvarint(nil, n); !bytes.Equal(p, want) {
			t.Errorf("Lay(%d) = % x, want % x", n, p, want)
		}
		if digits.Size(n) != len(p) || len(p) > digits.Most {
			t.Errorf("Size(%d) = %d, want %d", n, digits.Size(n), len(p))
		}
		for _, tail := range []string{"", "\x00", "\x80", "xyz"} {
			m, rest, e := digits.Take(append(slices.Clone(p), tail...))
			if m != n || string(rest) != tail || e != api.OK {
				t.Errorf("Take of Lay(%d) and %q = %d, %q, %d", n, tail, m, rest, e)
			}
		}
		for i := range p {
			m, rest, e := digits.Take(p[:i])
			if m != 0 || !bytes.Equal(rest, p[:i]) || e != api.ErrShort {
				t.Errorf("Take(% x) = %d, % x, %d", p[:i], m, rest, e)
			}
		}
	}
	if len(digits.Lay(nil, math.MaxUint64)) != digits.Most {
		t.Errorf("Most = %d", digits.Most)
	}
}

func TestTakeRefuses(t *testing.T) {
	nine := strings.Repeat("\xff", 9)
	for _, c := range []struct {
		p    string
		want api.Errno
	}{
		{"", api.ErrShort},
		{"\x80", api.ErrShort},
		{"\x80\x80", api.ErrShort},
		{nine, api.ErrShort},
		{"\x80\x00", api.ErrForm},
		{"\x80\x00\x01", api.ErrForm},
		{"\xff\x80\x00", api.ErrForm},
		{nine + "\x00", api.ErrForm},
		{nine + "\x02", api.ErrForm},
		{nine + "\x7f", api.ErrForm},
		{nine + "\x80", api.ErrForm},
		{nine + "\x81", api.ErrForm},
		{nine + "\xff\x01", api.ErrForm},
	} {
		n, rest, e := digits.Take([]byte(c.p))
		if n != 0 || string(rest) != c.p || e != c.want {
			t.Errorf("Take(% x) = %d, % x, %d, want the error %d", c.p, n, rest, e, c.want)
		}
	}
}

// TestTakeOfAllShortInputs: what Take accepts is what Lay returns, for all
// inputs of up to three bytes.
func TestTakeOfAllShortInputs(t *testing.T) {
	for size := range 4 {
		for n := range 1 << (8 * size) {
			p := []byte{byte(n), byte(n >> 8), byte(n >> 16)}[:size]
			checkTake(t, p)
		}
	}
}

func checkTake(t *testing.T, p []byte) {
	n, rest, e := digits.Take(p)
	last := slices.IndexFunc(p, func(b byte) bool { return b < 0x80 })
	want, left := api.OK, p
	switch {
	case last < 0:
		want = api.ErrShort
	case last > 0 && p[last] == 0:
		want = api.ErrForm
	default:
		left = p[last+1:]
	}
	if e != want || !bytes.Equal(rest, left) || e != api.OK && n != 0 {
		t.Fatalf("Take(% x) = %d, % x, %d, want % x, %d", p, n, rest, e, left, want)
	}
	if e == api.OK && !bytes.Equal(digits.Lay(nil, n), p[:last+1]) {
		t.Fatalf("Take(% x) = %d", p, n)
	}
}

func TestLayTextAndTakeText(t *testing.T) {
	for _, n := range []int{0, 1, 2, 127, 128, 300, 20000} {
		text := bytes.Repeat([]byte("t"), n)
		want := append(digits.Lay([]byte("ab"), uint64(n)), text...)
		p := digits.LayText([]byte("ab"), text)
		if !bytes.Equal(p, want) {
			t.Errorf("LayText of %d bytes: %d bytes", n, len(p))
		}
		for _, most := range []int{n, n + 1, math.MaxInt} {
			got, rest, e := digits.TakeText(append(p[2:], "rest"...), most)
			if !bytes.Equal(got, text) || string(rest) != "rest" || e != api.OK {
				t.Errorf("TakeText of %d bytes, most %d: %d, %q, %d", n, most, len(got), rest, e)
			}
		}
	}
}

func TestTakeTextRefuses(t *testing.T) {
	for _, c := range []struct {
		p    string
		most int
		want api.Errno
	}{
		{"", 9, api.ErrShort},
		{"\x80", 9, api.ErrShort},
		{"\x82\x00hi", 9, api.ErrForm},
		{"\x80\x00", -1, api.ErrForm},
		{"", -1, api.ErrShort},
		{"\x02", 9, api.ErrShort},
		{"\x02h", 9, api.ErrShort},
		{"\x02h", 2, api.ErrShort},
		{"\x02hi", 1, api.ErrLong},
		{"\x02hi", 0, api.ErrLong},
		{"\x02hi", -1, api.ErrLong},
		{"\x00", -1, api.ErrLong},
		{"\x00", math.MinInt, api.ErrLong},
		{"\x02", 1, api.ErrLong},
		{"\xff\xff\xff\xff\xff\xff\xff\xff\xff\x01hi", math.MaxInt, api.ErrLong},
		{"\xff\xff\xff\xff\xff\xff\xff\xff\x7fhi", math.MaxInt, api.ErrShort},
	} {
		text, rest, e := digits.TakeText([]byte(c.p), c.most)
		if len(text) != 0 || string(rest) != c.p || e != c.want {
			t.Errorf("TakeText(%q, %d) = %q, %q, %d, want the error %d", c.p, c.most, text, rest, e, c.want)
		}
	}
}

func TestLayFixed(t *testing.T) {
	if got := string(digits.LayFixed([]byte("ab"), 0x0102030405060708)); got != "ab\x01\x02\x03\x04\x05\x06\x07\x08" {
		t.Errorf("LayFixed = %q", got)
	}
	for _, n := range numbers() {
		if got, want := digits.LayFixed(nil, n), binary.BigEndian.AppendUint64(nil, n); !bytes.Equal(got, want) {
			t.Errorf("LayFixed(%d) = % x, want % x", n, got, want)
		}
	}
}

func TestList(t *testing.T) {
	want := numbers()
	var p []byte
	for _, n := range want {
		p = digits.Lay(p, n)
	}
	if got, e := digits.List(p); !slices.Equal(got, want) || e != api.OK {
		t.Errorf("List = %v, %d", got, e)
	}
	if got, e := digits.List(nil); len(got) != 0 || e != api.OK {
		t.Errorf("List(nil) = %v, %d", got, e)
	}
	for s, want := range map[string]api.Errno{
		"\x01\x80":             api.ErrShort,
		"\x01\x02\x80\x00\x03": api.ErrForm,
		"\x80\x00":             api.ErrForm,
		"\x80":                 api.ErrShort,
	} {
		if got, e := digits.List([]byte(s)); len(got) != 0 || e != want {
			t.Errorf("List(%q) = %v, %d, want the error %d", s, got, e, want)
		}
	}
}

// TestWritersKeepTheirArguments is P2 and the rule on memory: two encodings that begin with the same bytes
// are independent, even if there is spare capacity behind these.
func TestWritersKeepTheirArguments(t *testing.T) {
	for name, lay := range map[string]func(p []byte, n uint64) []byte{
		"Lay":      digits.Lay,
		"LayFixed": digits.LayFixed,
		"LayText":  func(p []byte, n uint64) []byte { return digits.LayText(p, []byte{byte(n), 'x'}) },
	} {
		whole := bytes.Repeat([]byte("w"), 40)
		p := whole[:3]
		a := lay(p, 5)
		before := slices.Clone(a)
		b := lay(p, 6)
		_ = append(a, 'y')
		if !bytes.Equal(a, before) || bytes.Equal(a, b) || string(whole) != strings.Repeat("w", 40) {
			t.Errorf("%s: %q, %q, %q", name, a, b, whole)
		}
		a[0] = 'z'
		if p[0] != 'w' || b[0] != 'w' {
			t.Errorf("%s shares memory", name)
		}
	}
}

// TestReadersKeepTheirArguments is the rule on memory: a caller may append to what was returned.
func TestReadersKeepTheirArguments(t *testing.T) {
	const all = "\x02hi\x05more"
	for _, n := range []int{0, 1, 3, 4, 6} {
		for _, most := range []int{0, 9} {
			whole := []byte(all)
			p := whole[:n]
			text, rest, _ := digits.TakeText(p, most)
			_, after, _ := digits.Take(p)
			tape := digits.NewTape(p)
			_ = append(text, "TTTT"...)
			_ = append(rest, "RRRR"...)
			_ = append(after, "AAAA"...)
			_ = append(tape.Left(), "LLLL"...)
			if string(whole) != all {
				t.Errorf("of %d bytes, most %d: %q", n, most, whole)
			}
		}
	}
}

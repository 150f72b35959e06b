package quantity_test

import (
	"math"
	"math/rand"
	"strconv"
	"strings"
	"testing"

	"anabranch/quantity"
)

const canonical = 0x7ff8000000000001

var negativeZero = math.Copysign(0, -1)

// ordered holds quantities in the order of P1.1.
var ordered = []float64{
	math.Inf(-1), -math.MaxFloat64, -2, -1.5, -1, -math.SmallestNonzeroFloat64, negativeZero,
	0, math.SmallestNonzeroFloat64, 2.2250738585072014e-308, 0.5, 1, 1.5, 2, math.MaxFloat64, math.Inf(1), math.NaN(),
}

// nans holds bits of NaNs: both signs, quiet and signalling.
var nans = []uint64{
	canonical, 0x7ff8000000000000, 0x7ff0000000000001, 0x7fffffffffffffff,
	0xfff8000000000000, 0xfff8000000000001, 0xfff0000000000001, 0xffffffffffffffff,
}

func randomBits(n int) []uint64 {
	r := rand.New(rand.NewSource(1))
	l := make([]uint64, n)
	for i := range l {
		l[i] = r.Uint64()
	}
	return l
}

// The tests of P1.1.

func TestBits(t *testing.T) {
	for x, want := range map[float64]uint64{
		1:                            0x3ff0000000000000,
		-2:                           0xc000000000000000,
		math.Inf(1):                  0x7ff0000000000000,
		math.Inf(-1):                 0xfff0000000000000,
		math.SmallestNonzeroFloat64:  1,
		math.MaxFloat64:              0x7fefffffffffffff,
		-math.SmallestNonzeroFloat64: 0x8000000000000001,
	} {
		if got := quantity.Bits(x); got != want {
			t.Errorf("Bits(%v) = %x, want %x", x, got, want)
		}
	}
	if quantity.Bits(0) != 0 || quantity.Bits(negativeZero) != 1<<63 {
		t.Error("Bits of the zeros")
	}
}

func TestBitsOfNaN(t *testing.T) {
	for _, b := range nans {
		x := math.Float64frombits(b)
		if got := quantity.Bits(x); got != canonical {
			t.Errorf("Bits(%x) = %x", b, got)
		}
		if got := math.Float64bits(quantity.Plain(x)); got != canonical {
			t.Errorf("Plain(%x) has the bits %x", b, got)
		}
	}
}

func TestOfIsTheInverseOfBits(t *testing.T) {
	for _, b := range append(randomBits(10000), nans...) {
		x := math.Float64frombits(b)
		isNaN := x != x
		got, ok := quantity.Of(b)
		if ok != (!isNaN || b == canonical) {
			t.Errorf("Of(%x): %v", b, ok)
		}
		if ok && math.Float64bits(got) != b {
			t.Errorf("Of(%x) has the bits %x", b, math.Float64bits(got))
		}
		if !ok && got != 0 {
			t.Errorf("Of(%x) = %v with false", b, got)
		}
	}
	for _, x := range ordered {
		if y, ok := quantity.Of(quantity.Bits(x)); !ok || !quantity.Same(x, y) {
			t.Errorf("Of(Bits(%v)) = %v, %v", x, y, ok)
		}
	}
}

func TestPlainKeepsEverythingElse(t *testing.T) {
	for _, x := range ordered[:len(ordered)-1] {
		if math.Float64bits(quantity.Plain(x)) != math.Float64bits(x) {
			t.Errorf("Plain(%v) = %v", x, quantity.Plain(x))
		}
	}
}

func TestSameAndLess(t *testing.T) {
	for i, x := range ordered {
		for k, y := range ordered {
			if got := quantity.Same(x, y); got != (i == k) {
				t.Errorf("Same(%v, %v) = %v", x, y, got)
			}
			if got := quantity.Less(x, y); got != (i < k) {
				t.Errorf("Less(%v, %v) = %v", x, y, got)
			}
		}
	}
}

func TestLessAgreesWithTheNumbers(t *testing.T) {
	l := randomBits(2000)
	for i, b := range l {
		x, y := math.Float64frombits(b), math.Float64frombits(l[(i+1)%len(l)])
		if x != x || y != y {
			continue
		}
		if quantity.Less(x, y) != (x < y) || quantity.Less(y, x) != (y < x) {
			t.Errorf("Less of %v and %v", x, y)
		}
	}
}

func TestAllNaNsAreTheSame(t *testing.T) {
	for _, a := range nans {
		for _, b := range nans {
			x, y := math.Float64frombits(a), math.Float64frombits(b)
			if !quantity.Same(x, y) || quantity.Less(x, y) {
				t.Errorf("%x and %x", a, b)
			}
		}
		x := math.Float64frombits(a)
		if quantity.Less(x, math.Inf(-1)) || !quantity.Less(math.Inf(1), x) {
			t.Errorf("%x is not the last one", a)
		}
	}
}

func TestSum(t *testing.T) {
	tenth, fifth := 0.1, 0.2
	for _, c := range []struct{ x, y, want float64 }{
		{1, 2, 3},
		{tenth, fifth, 0.30000000000000004},
		{1e308, 1e308, math.Inf(1)},
		{math.Inf(-1), 1, math.Inf(-1)},
		{negativeZero, negativeZero, negativeZero},
		{negativeZero, 0, 0},
		{1, -1, 0},
		{math.Inf(1), math.Inf(-1), math.NaN()},
		{1, math.NaN(), math.NaN()},
	} {
		if got := quantity.Sum(c.x, c.y); !quantity.Same(got, c.want) {
			t.Errorf("Sum(%v, %v) = %v, want %v", c.x, c.y, got, c.want)
		}
	}
	for _, b := range nans {
		if got := math.Float64bits(quantity.Sum(math.Float64frombits(b), 1)); got != canonical {
			t.Errorf("Sum(%x, 1) has the bits %x", b, got)
		}
	}
	if got := math.Float64bits(quantity.Sum(math.Inf(-1), math.Inf(1))); got != canonical {
		t.Errorf("the sum of the infinities has the bits %x", got)
	}
}

func TestFinite(t *testing.T) {
	for i, x := range ordered {
		want := i > 0 && i < len(ordered)-2
		if got := quantity.Finite(x); got != want {
			t.Errorf("Finite(%v) = %v", x, got)
		}
	}
	for _, b := range nans {
		if quantity.Finite(math.Float64frombits(b)) {
			t.Errorf("Finite of the bits %x", b)
		}
	}
}

// The tests of P1.2.

func TestText(t *testing.T) {
	for _, c := range []struct {
		x    float64
		want string
	}{
		{0.5, "5e-01"},
		{1.5, "1.5e+00"},
		{0, "0e+00"},
		{negativeZero, "-0e+00"},
		{-100, "-1e+02"},
		{1e100, "1e+100"},
		{math.SmallestNonzeroFloat64, "5e-324"},
		{-math.MaxFloat64, "-1.7976931348623157e+308"},
		{math.NaN(), "void"},
		{math.Float64frombits(0xffffffffffffffff), "void"},
		{math.Inf(1), "endless"},
		{math.Inf(-1), "-endless"},
	} {
		if got := quantity.Text(c.x); got != c.want {
			t.Errorf("Text(%v) = %s, want %s", c.x, got, c.want)
		}
		x, ok := quantity.Parse(c.want)
		if !ok || math.Float64bits(x) != quantity.Bits(c.x) {
			t.Errorf("Parse(%s) = %v, %v", c.want, x, ok)
		}
	}
}

func TestParseIsTheInverseOfText(t *testing.T) {
	for _, b := range append(randomBits(10000), nans...) {
		x := math.Float64frombits(b)
		s := quantity.Text(x)
		if y, ok := quantity.Parse(s); !ok || math.Float64bits(y) != quantity.Bits(x) {
			t.Errorf("Parse(%s) = %v, %v", s, y, ok)
		}
		if x == x && s != strconv.FormatFloat(x, 'e', -1, 64) && quantity.Finite(x) {
			t.Errorf("Text(%v) = %s", x, s)
		}
	}
}

func TestParseRefusesEveryOtherText(t *testing.T) {
	for _, s := range []string{
		"", " ", "x", "e", ".", "-", "+", "--1e+00",
		"0", "1", "0.5", "5e-1", "5e-001", "5E-01", "05e-01", "+5e-01", "0.5e+00", "50e-02", "5.0e-01", "5.e-01",
		" 5e-01", "5e-01 ", "5e-01\n", "5e-01\x00", "5e-01x", "5_0e-02",
		"-0", "0e+0", "0e-00", "+0e+00", "-0e-00",
		"nan", "NaN", "-void", "+void", "Void", "void ", "inf", "+Inf", "-Inf", "infinity",
		"+endless", "Endless", "endless ", "--endless",
		"1e+309", "-1e+309", "1.7976931348623159e+308", "1e-400", "4e-324",
		"0x1p-01", "0x0p+00", "1.50e+00", "1.00000000000000000001e+00", "9.9999999999999999e-01",
		strings.Repeat("9", 100000), strings.Repeat("0", 100000) + "5e-01", "1e+" + strings.Repeat("9", 1000),
	} {
		if x, ok := quantity.Parse(s); ok || x != 0 || math.Signbit(x) {
			t.Errorf("Parse(%.40q) = %v, %v", s, x, ok)
		}
	}
}

// TestAnswersDoNotDependOnEarlierCalls is P2: whatever was asked before, in
// whichever order, the answers are the same.
func TestAnswersDoNotDependOnEarlierCalls(t *testing.T) {
	type answers struct {
		bits, sum uint64
		text      string
		less      bool
	}
	ask := func(x float64) answers {
		return answers{quantity.Bits(x), math.Float64bits(quantity.Sum(x, 1)), quantity.Text(x), quantity.Less(x, 1)}
	}
	var first []answers
	for _, x := range ordered {
		first = append(first, ask(x))
	}
	for i := len(ordered) - 1; i >= 0; i-- {
		if got := ask(ordered[i]); got != first[i] {
			t.Errorf("%v: %v, and before %v", ordered[i], got, first[i])
		}
	}
}

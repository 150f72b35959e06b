// Package quantity is layer 1: floating-point quantities with one NaN, a total
// order, and a canonical text.
package quantity

import (
	"math"
	"strconv"
)

const (
	nanBits = 0x7ff8000000000001
	signBit = 1 << 63
)

const (
	nanText  = "void"
	plusInf  = "endless"
	minusInf = "-endless"
)

// Bits returns the IEEE 754 bits of x. All NaNs have the same ones, so that
// what a node computes does not depend on how its machine makes a NaN.
func Bits(x float64) uint64 {
	if math.IsNaN(x) {
		return nanBits
	}
	return math.Float64bits(x)
}

// Of returns the quantity with these bits, and false if no quantity has them.
func Of(bits uint64) (float64, bool) {
	x := math.Float64frombits(bits)
	if Bits(x) != bits {
		return 0, false
	}
	return x, true
}

// Plain returns x with the bits that Bits gives it.
func Plain(x float64) float64 {
	return math.Float64frombits(Bits(x))
}

// Same reports whether x and y have the same Bits. Unlike ==, it tells -0 from
// 0, and NaN is the same as itself.
func Same(x, y float64) bool {
	return Bits(x) == Bits(y)
}

// Less reports whether x comes before y: negative infinity first, -0 before 0,
// NaN after everything else.
func Less(x, y float64) bool {
	return rank(x) < rank(y)
}

// rank numbers the quantities in their order. The bits of a negative quantity
// grow with its magnitude, so they count downwards, below those of the others.
func rank(x float64) uint64 {
	b := Bits(x)
	if b&signBit != 0 {
		return ^b
	}
	return b | signBit
}

// Sum returns Plain of x + y.
func Sum(x, y float64) float64 {
	return Plain(x + y)
}

// Finite reports whether x is neither NaN nor an infinity.
func Finite(x float64) bool {
	return !math.IsNaN(x) && !math.IsInf(x, 0)
}

// Text returns the only text of x that Parse accepts.
func Text(x float64) string {
	switch {
	case math.IsNaN(x):
		return nanText
	case math.IsInf(x, 1):
		return plusInf
	case math.IsInf(x, -1):
		return minusInf
	}
	return strconv.FormatFloat(x, 'e', -1, 64)
}

// Parse returns the quantity whose Text is s, and false if there is none.
func Parse(s string) (float64, bool) {
	x := guess(s)
	if Text(x) != s {
		return 0, false
	}
	return x, true
}

// guess returns the only quantity whose Text can be s. It may ignore
// ParseFloat's error: what ParseFloat returns with one has another Text.
func guess(s string) float64 {
	switch s {
	case nanText:
		return Plain(math.NaN())
	case plusInf:
		return math.Inf(1)
	case minusInf:
		return math.Inf(-1)
	}
	x, _ := strconv.ParseFloat(s, 64)
	return x
}

package vector_test

import (
	"math"
	"math/big"
	"math/rand"
	"slices"
	"testing"

	"anabranch/api"
	"anabranch/vector"
)

const greatest = math.MaxUint64

// noWriters are numbers for which no vector has a place.
var noWriters = []int{math.MinInt, -65, -64, -1, 64, 65, 128, math.MaxInt}

// full returns a vector of n numbers, all different and none of them 0.
func full(n int) vector.Vector {
	v := make(vector.Vector, n)
	for w := range v {
		v[w] = uint64(w)*1000 + 1
	}
	return v
}

// lone returns a vector of n numbers, of which only that of w is not 0.
func lone(n, w int, x uint64) vector.Vector {
	v := make(vector.Vector, n)
	v[w] = x
	return v
}

// padded returns a copy of v with n zeros behind it.
func padded(v vector.Vector, n int) vector.Vector {
	return append(slices.Clone(v), make(vector.Vector, n)...)
}

// number returns what P7.1 says Get returns.
func number(v vector.Vector, w int) uint64 {
	if w < 0 || w >= len(v) {
		return 0
	}
	return v[w]
}

// trimmed returns what P7.1 says Trim returns.
func trimmed(v vector.Vector) vector.Vector {
	last := -1
	for w, n := range v {
		if n != 0 {
			last = w
		}
	}
	return slices.Clone(v[:last+1])
}

// samples returns all vectors of at most three numbers up to 2 (among them those that are empty, end in zeros or have
// zeros within), and some at the limits.
func samples() []vector.Vector {
	l := []vector.Vector{nil, {}}
	shorter := l[1:]
	for range 3 {
		var longer []vector.Vector
		for _, v := range shorter {
			for n := range uint64(3) {
				longer = append(longer, append(slices.Clone(v), n))
			}
		}
		l = append(l, longer...)
		shorter = longer
	}
	return append(l,
		make(vector.Vector, 64), full(63), full(64), lone(64, 0, 1), lone(64, 31, 7), lone(64, 63, 1), lone(64, 63, api.End),
		vector.Vector{127, 128, 300}, vector.Vector{api.End}, vector.Vector{api.End - 1, api.End, 0})
}

// wide returns samples, and vectors that no encoding has.
func wide() []vector.Vector {
	return append(samples(), vector.Vector{greatest}, vector.Vector{0, greatest, greatest - 1, api.End + 1}, full(65), make(vector.Vector, 70), full(1000))
}

// wantVector checks a result, to the number of its elements.
func wantVector(t *testing.T, what string, got, want vector.Vector) {
	t.Helper()
	if !slices.Equal(got, want) {
		t.Errorf("%s = %v, want %v", what, got, want)
	}
}

// The tests of P7.1.

func TestExample(t *testing.T) {
	wantVector(t, "Join((1, 2), (3))", vector.Join(vector.Vector{1, 2}, vector.Vector{3}), vector.Vector{3, 2})
	if n := (vector.Vector{3, 2}).Lack(vector.Vector{1}); n != 4 {
		t.Errorf("Lack of (3, 2) by (1) = %d", n)
	}
}

func TestTrim(t *testing.T) {
	for _, c := range []struct{ v, want vector.Vector }{
		{nil, nil},
		{vector.Vector{}, nil},
		{vector.Vector{0}, nil},
		{vector.Vector{0, 0, 0}, nil},
		{vector.Vector{5}, vector.Vector{5}},
		{vector.Vector{5, 0}, vector.Vector{5}},
		{vector.Vector{5, 0, 0}, vector.Vector{5}},
		{vector.Vector{0, 5}, vector.Vector{0, 5}},
		{vector.Vector{0, 5, 0, 6, 0, 0}, vector.Vector{0, 5, 0, 6}},
		{vector.Vector{api.End, greatest, 0}, vector.Vector{api.End, greatest}},
		{make(vector.Vector, 64), nil},
		{lone(64, 0, 1), vector.Vector{1}},
		{lone(64, 62, 1), lone(63, 62, 1)},
		{lone(64, 63, 1), lone(64, 63, 1)},
		{full(64), full(64)},
	} {
		wantVector(t, "Trim", c.v.Trim(), c.want)
	}
	for _, v := range wide() {
		wantVector(t, "Trim", v.Trim(), trimmed(v))
	}
}

func TestGet(t *testing.T) {
	v := full(64)
	for w := range 64 {
		if n := v.Get(w); n != uint64(w)*1000+1 {
			t.Errorf("Get(%d) = %d", w, n)
		}
	}
	short := vector.Vector{7, 0, greatest}
	for w, want := range []uint64{7, 0, greatest, 0, 0} {
		if n := short.Get(w); n != want {
			t.Errorf("Get(%d) = %d, want %d", w, n, want)
		}
	}
	for _, v := range []vector.Vector{nil, {}, {7}, short, full(63), full(64)} {
		for _, w := range append(noWriters, len(v)) {
			if n := v.Get(w); n != 0 {
				t.Errorf("Get(%d) of %d numbers = %d", w, len(v), n)
			}
		}
	}
	if n := full(63).Get(63); n != 0 {
		t.Errorf("Get(63) of 63 numbers = %d", n)
	}
}

func TestWith(t *testing.T) {
	for _, c := range []struct {
		v    vector.Vector
		w    int
		n    uint64
		want vector.Vector
	}{
		{nil, 0, 5, vector.Vector{5}},
		{nil, 0, 0, nil},
		{nil, 3, 5, vector.Vector{0, 0, 0, 5}},
		{nil, 63, 5, lone(64, 63, 5)},
		{nil, 63, 0, nil},
		{vector.Vector{1, 2, 3}, 0, 9, vector.Vector{9, 2, 3}},
		{vector.Vector{1, 2, 3}, 2, 9, vector.Vector{1, 2, 9}},
		{vector.Vector{1, 2, 3}, 2, 1, vector.Vector{1, 2, 1}},
		{vector.Vector{1, 2, 3}, 3, 9, vector.Vector{1, 2, 3, 9}},
		{vector.Vector{1, 2, 3}, 5, 9, vector.Vector{1, 2, 3, 0, 0, 9}},
		{vector.Vector{1, 2, 3}, 0, 0, vector.Vector{0, 2, 3}},
		{vector.Vector{1, 2, 3}, 1, 0, vector.Vector{1, 0, 3}},
		{vector.Vector{1, 2, 3}, 2, 0, vector.Vector{1, 2}},
		{vector.Vector{1, 0, 3}, 2, 0, vector.Vector{1}},
		{vector.Vector{0, 0, 3}, 2, 0, nil},
		{vector.Vector{1, 2, 3}, 5, 0, vector.Vector{1, 2, 3}},
		{vector.Vector{1, 2, 0, 0}, 0, 9, vector.Vector{9, 2}},
		{vector.Vector{1, 2, 0, 0}, 2, 9, vector.Vector{1, 2, 9}},
		{vector.Vector{1, 2, 0, 0}, 5, 0, vector.Vector{1, 2}},
		{vector.Vector{1, 2}, 1, api.End, vector.Vector{1, api.End}},
		{vector.Vector{1, 2}, 1, greatest, vector.Vector{1, greatest}},
		{full(64), 63, 0, full(63)},
		{full(63), 63, 63001, full(64)},
	} {
		wantVector(t, "With", c.v.With(c.w, c.n), c.want)
	}
	for _, v := range samples() {
		for w := range 64 {
			for _, n := range []uint64{0, 1, api.End} {
				want := padded(v, 64-len(v))
				want[w] = n
				wantVector(t, "With", v.With(w, n), trimmed(want))
			}
		}
	}
}

// TestWithOfNoWriter: the numbers stay as they are, but the result is trimmed.
func TestWithOfNoWriter(t *testing.T) {
	for _, v := range wide() {
		for _, w := range noWriters {
			for _, n := range []uint64{0, 1, greatest} {
				wantVector(t, "With of no writer", v.With(w, n), trimmed(v))
			}
		}
	}
}

func TestJoinAndMeet(t *testing.T) {
	for _, c := range []struct{ a, b, join, meet vector.Vector }{
		{nil, nil, nil, nil},
		{nil, vector.Vector{1, 2}, vector.Vector{1, 2}, nil},
		{vector.Vector{0, 0}, vector.Vector{0, 0, 0}, nil, nil},
		{vector.Vector{1, 5}, vector.Vector{4, 2}, vector.Vector{4, 5}, vector.Vector{1, 2}},
		{vector.Vector{1, 5}, vector.Vector{4, 2, 7}, vector.Vector{4, 5, 7}, vector.Vector{1, 2}},
		{vector.Vector{1, 5}, vector.Vector{4}, vector.Vector{4, 5}, vector.Vector{1}},
		{vector.Vector{1, 5, 0}, vector.Vector{4, 0, 0, 0}, vector.Vector{4, 5}, vector.Vector{1}},
		{vector.Vector{0, 5}, vector.Vector{5}, vector.Vector{5, 5}, nil},
		{vector.Vector{0, 5, 0, 3}, vector.Vector{1, 0, 0, 4}, vector.Vector{1, 5, 0, 4}, vector.Vector{0, 0, 0, 3}},
		{vector.Vector{api.End, greatest}, vector.Vector{greatest, api.End}, vector.Vector{greatest, greatest}, vector.Vector{api.End, api.End}},
		{full(64), lone(64, 63, 1), full(64), lone(64, 63, 1)},
	} {
		wantVector(t, "Join", vector.Join(c.a, c.b), c.join)
		wantVector(t, "Join", vector.Join(c.b, c.a), c.join)
		wantVector(t, "Meet", vector.Meet(c.a, c.b), c.meet)
		wantVector(t, "Meet", vector.Meet(c.b, c.a), c.meet)
	}
}

func TestWithinSameAndApart(t *testing.T) {
	for _, c := range []struct {
		a, b   vector.Vector
		ab, ba bool
	}{
		{nil, nil, true, true},
		{nil, vector.Vector{0, 0}, true, true},
		{nil, vector.Vector{0, 1}, true, false},
		{vector.Vector{1, 2}, vector.Vector{1, 2}, true, true},
		{vector.Vector{1, 2}, vector.Vector{1, 2, 0}, true, true},
		{vector.Vector{1, 2, 0, 0, 0}, vector.Vector{1, 2, 0}, true, true},
		{vector.Vector{1, 2}, vector.Vector{1, 2, 1}, true, false},
		{vector.Vector{1, 2}, vector.Vector{1, 2, 0, 1}, true, false},
		{vector.Vector{1, 2}, vector.Vector{1, 3}, true, false},
		{vector.Vector{1, 2}, vector.Vector{2, 3}, true, false},
		{vector.Vector{1, 2}, vector.Vector{3}, false, false},
		{vector.Vector{1, 2}, vector.Vector{2, 1}, false, false},
		{vector.Vector{0, 1}, vector.Vector{1, 0}, false, false},
		{vector.Vector{0, 1, 0}, vector.Vector{1}, false, false},
		{vector.Vector{api.End}, vector.Vector{greatest}, true, false},
		{lone(64, 63, 1), lone(64, 62, 1), false, false},
		{lone(64, 63, 1), lone(64, 63, 2), true, false},
		{lone(64, 63, 0), nil, true, true},
	} {
		wantOrder(t, c.a, c.b, c.ab, c.ba)
		wantOrder(t, c.b, c.a, c.ba, c.ab)
	}
}

// wantOrder checks what Within, Same and Apart return for two vectors.
func wantOrder(t *testing.T, a, b vector.Vector, ab, ba bool) {
	t.Helper()
	if got := a.Within(b); got != ab {
		t.Errorf("%v Within %v: %v", a, b, got)
	}
	if got := vector.Same(a, b); got != (ab && ba) {
		t.Errorf("Same(%v, %v) = %v", a, b, got)
	}
	if got := vector.Apart(a, b); got != (!ab && !ba) {
		t.Errorf("Apart(%v, %v) = %v", a, b, got)
	}
}

func TestLack(t *testing.T) {
	for _, c := range []struct {
		v, o vector.Vector
		want uint64
	}{
		{nil, nil, 0},
		{nil, vector.Vector{1, 2}, 0},
		{vector.Vector{1, 2}, nil, 3},
		{vector.Vector{1, 2}, vector.Vector{1, 2}, 0},
		{vector.Vector{1, 2, 0}, vector.Vector{1, 2}, 0},
		{vector.Vector{1, 2}, vector.Vector{1, 2, 0, 5}, 0},
		{vector.Vector{1, 2}, vector.Vector{3}, 2},
		{vector.Vector{3}, vector.Vector{1, 2, 0}, 2},
		{vector.Vector{5, 1}, vector.Vector{1, 5}, 4},
		{vector.Vector{5, 1, 9}, vector.Vector{1, 5, 2}, 11},
		{vector.Vector{0, 1}, vector.Vector{greatest}, 1},
		{lone(64, 63, 5), lone(64, 63, 3), 2},
		{vector.Vector{greatest}, nil, greatest},
		{vector.Vector{greatest}, vector.Vector{greatest}, 0},
		{vector.Vector{greatest}, vector.Vector{1}, greatest - 1},
		{vector.Vector{greatest - 1, 1}, nil, greatest},
		{vector.Vector{api.End, api.End}, nil, greatest - 1},
		{vector.Vector{api.End, api.End, 1}, nil, greatest},
		{vector.Vector{api.End, api.End, 2}, nil, greatest},
		{vector.Vector{api.End, api.End, 5}, vector.Vector{2, 2}, greatest},
		{vector.Vector{api.End, api.End, 4}, vector.Vector{2, 2}, greatest - 1},
		{vector.Vector{api.End, api.End, api.End}, nil, greatest},
		{vector.Vector{greatest, 1}, nil, greatest},
		{vector.Vector{1, greatest}, nil, greatest},
		{vector.Vector{greatest, 1, 0, 0}, nil, greatest},
		{vector.Vector{greatest, 1, 1}, nil, greatest},
		{vector.Vector{greatest, greatest}, nil, greatest},
		{vector.Vector{greatest, 1, greatest, 3}, nil, greatest},
	} {
		if got := c.v.Lack(c.o); got != c.want {
			t.Errorf("%v.Lack(%v) = %d, want %d", c.v, c.o, got, c.want)
		}
	}
}

// wantPair checks all that P7.1 says of two vectors, writer by writer.
func wantPair(t *testing.T, a, b vector.Vector) {
	t.Helper()
	var join, meet vector.Vector
	ab, ba, sum := true, true, new(big.Int)
	for w := range max(len(a), len(b)) {
		x, y := number(a, w), number(b, w)
		join, meet = append(join, max(x, y)), append(meet, min(x, y))
		ab, ba = ab && x <= y, ba && y <= x
		if x > y {
			sum.Add(sum, new(big.Int).SetUint64(x-y))
		}
	}
	wantVector(t, "Join", vector.Join(a, b), trimmed(join))
	wantVector(t, "Meet", vector.Meet(a, b), trimmed(meet))
	wantOrder(t, a, b, ab, ba)
	want := uint64(greatest)
	if sum.IsUint64() {
		want = sum.Uint64()
	}
	if got := a.Lack(b); got != want {
		t.Errorf("%v.Lack(%v) = %d, want %d", a, b, got, want)
	}
}

func TestAllPairsOfSamples(t *testing.T) {
	for _, a := range wide() {
		for _, b := range wide() {
			wantPair(t, a, b)
		}
	}
}

// TestRandomPairs: most numbers of a pair are near each other, so that every order occurs.
func TestRandomPairs(t *testing.T) {
	r := rand.New(rand.NewSource(7))
	random := func() vector.Vector {
		v := make(vector.Vector, r.Intn(65))
		for w := range v {
			v[w] = uint64(r.Intn(3))
			if r.Intn(50) == 0 {
				v[w] = r.Uint64() >> r.Intn(64)
			}
		}
		return v
	}
	for range 5000 {
		a := random()
		b := slices.Clone(a[:r.Intn(len(a)+1)])
		if r.Intn(2) == 0 {
			b = random()
		}
		wantPair(t, a, b)
		wantPair(t, b, a)
		wantPair(t, a, padded(a, r.Intn(4)))
	}
}

// The tests of P1 and P2.

// TestLongVectors is P1: a vector with more numbers than there are nodes is no reason to panic, or to take long.
func TestLongVectors(t *testing.T) {
	v := full(1 << 20)
	for _, o := range []vector.Vector{nil, full(64), v} {
		vector.Join(v, o)
		vector.Meet(v, o)
		vector.Same(v, o)
		vector.Apart(o, v)
		v.Lack(o)
		o.Within(v)
	}
	wantVector(t, "Trim", v.Trim(), v)
	wantVector(t, "With", v.With(64, 5), v)
	wantVector(t, "With", v.With(0, 5)[1:], v[1:])
	if _, e := vector.Of(v.Bytes()); e != api.ErrLong {
		t.Errorf("Of: %d", e)
	}
}

// TestAnswersDoNotDependOnEarlierCalls is P2: asked again, in another order, the answers are the same.
func TestAnswersDoNotDependOnEarlierCalls(t *testing.T) {
	l := wide()
	ask := func(v, o vector.Vector) []byte {
		p := vector.Join(v, o).Bytes()
		p = vector.Meet(v, o).Lay(p)
		p = o.With(5, v.Lack(o)).Lay(p)
		x, e := vector.Of(o.Bytes())
		return append(x.Lay(p), byte(e))
	}
	var first [][]byte
	for _, v := range l {
		for _, o := range l {
			first = append(first, ask(v, o))
		}
	}
	for _, v := range slices.Backward(l) {
		for _, o := range slices.Backward(l) {
			last := len(first) - 1
			if got := ask(v, o); !slices.Equal(got, first[last]) {
				t.Errorf("%v, %v: %q, and before %q", v, o, got, first[last])
			}
			first = first[:last]
		}
	}
}

// TestMemory is the rule on memory: arguments stay as they are, also behind their ends, and results share nothing
// with them.
func TestMemory(t *testing.T) {
	for name, call := range map[string]func(v, o vector.Vector) vector.Vector{
		"Trim":          func(v, o vector.Vector) vector.Vector { return v.Trim() },
		"Trim of zeros": func(v, o vector.Vector) vector.Vector { return o.Trim() },
		"With":          func(v, o vector.Vector) vector.Vector { return v.With(1, 9) },
		"With of 0":     func(v, o vector.Vector) vector.Vector { return v.With(2, 0) },
		"With behind":   func(v, o vector.Vector) vector.Vector { return v.With(5, 9) },
		"With of none":  func(v, o vector.Vector) vector.Vector { return v.With(64, 9) },
		"Join":          vector.Join,
		"Join with nil": func(v, o vector.Vector) vector.Vector { return vector.Join(v, nil) },
		"Meet":          vector.Meet,
		"Meet with it":  func(v, o vector.Vector) vector.Vector { return vector.Meet(v, v) },
	} {
		all, zeros := vector.Vector{1, 2, 3, 0, 7, 7, 7, 7, 7}, vector.Vector{0, 0, 0, 7, 7, 7, 7, 7, 7}
		v, o := all[:4], zeros[:3]
		got := call(v, o)
		before := slices.Clone(got)
		_ = append(got, 8, 8, 8, 8, 8)
		for w := range got {
			got[w] = 8
		}
		wantVector(t, name+": the vector", all, vector.Vector{1, 2, 3, 0, 7, 7, 7, 7, 7})
		wantVector(t, name+": the other one", zeros, vector.Vector{0, 0, 0, 7, 7, 7, 7, 7, 7})
		again := call(v, o)
		clear(all)
		clear(zeros)
		wantVector(t, name, again, before)
	}
}

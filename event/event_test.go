package event_test

import (
	"bytes"
	"encoding/binary"
	"fmt"
	"math"
	"slices"
	"strings"
	"testing"

	"anabranch/api"
	"anabranch/event"
)

const canonical = 0x7ff8000000000001

var (
	negativeZero = math.Copysign(0, -1)
	longKey      = strings.Repeat("k", api.MaxKey+1)
	longText     = []byte(strings.Repeat("t", api.MaxText+1))
	kinds        = []byte{api.Set, api.Put, api.Add, api.Drop, api.Join, api.Retire}
	noKinds      = []byte{0, 7, 8, 128, 255}
)

// nans are quantities with other bits than the one NaN of package quantity.
var nans = []float64{
	math.Float64frombits(0x7ff8000000000000),
	math.Float64frombits(0x7ff0000000000001),
	math.Float64frombits(0xfff8000000000001),
	math.Float64frombits(math.MaxUint64),
}

// full returns an event of a kind in which every field has a value.
func full(kind byte) api.Event {
	return api.Event{Writer: 1, Seq: 2, Time: 300, Kind: kind, Key: "key", Text: []byte("hi"), Num: 0.5, Node: 5}
}

// hasKey, hasText, hasNum and hasNode tell which fields a kind uses, by P6.1.
func hasKey(kind byte) bool  { return kind == 1 || kind == 2 || kind == 3 || kind == 4 }
func hasText(kind byte) bool { return kind == 1 }
func hasNum(kind byte) bool  { return kind == 2 || kind == 3 }
func hasNode(kind byte) bool { return kind == 5 }

// bits returns the bits of a quantity, by P1.1.
func bits(x float64) uint64 {
	if x != x {
		return canonical
	}
	return math.Float64bits(x)
}

// plainOf returns what P6.1 says Plain returns.
func plainOf(e api.Event) api.Event {
	e.Num = math.Float64frombits(bits(e.Num))
	if !hasKey(e.Kind) {
		e.Key = ""
	}
	if !hasText(e.Kind) {
		e.Text = nil
	}
	if !hasNum(e.Kind) {
		e.Num = 0
	}
	if !hasNode(e.Kind) {
		e.Node = 0
	}
	return e
}

// laid returns what P6.2 says Encode returns, made without the program's packages.
func laid(e api.Event) string {
	p := binary.AppendUvarint(nil, uint64(e.Writer))
	p = binary.AppendUvarint(p, e.Seq)
	p = binary.AppendUvarint(p, e.Time)
	p = append(p, e.Kind)
	if hasKey(e.Kind) {
		p = append(binary.AppendUvarint(p, uint64(len(e.Key))), e.Key...)
	}
	if hasText(e.Kind) {
		p = append(binary.AppendUvarint(p, uint64(len(e.Text))), e.Text...)
	}
	if hasNum(e.Kind) {
		p = binary.BigEndian.AppendUint64(p, bits(e.Num))
	}
	if hasNode(e.Kind) {
		p = binary.AppendUvarint(p, uint64(e.Node))
	}
	return string(p)
}

// identical reports whether two events are equal in every field, to the bit.
func identical(a, b api.Event) bool {
	return a.Writer == b.Writer && a.Seq == b.Seq && a.Time == b.Time && a.Kind == b.Kind && a.Key == b.Key &&
		string(a.Text) == string(b.Text) && math.Float64bits(a.Num) == math.Float64bits(b.Num) && a.Node == b.Node
}

// brief tells what an event is, and of a long text only how it begins.
func brief(e api.Event) string {
	return fmt.Sprintf("{%d %d %d kind %d %.80q %.20q (%d) %x %d}",
		e.Writer, e.Seq, e.Time, e.Kind, e.Key, e.Text, len(e.Text), math.Float64bits(e.Num), e.Node)
}

// rights returns events without a fault, among them those at the limits, without those with a long text.
func rights() []api.Event {
	var l []api.Event
	vary := func(change func(e *api.Event)) {
		for _, k := range kinds {
			e := full(k)
			change(&e)
			l = append(l, e)
		}
	}
	for _, n := range []int{0, 1, 62, 63} {
		vary(func(e *api.Event) { e.Writer = n })
		vary(func(e *api.Event) { e.Node = n })
	}
	for _, n := range []uint64{1, 127, 128, 1 << 32, api.End - 1, api.End} {
		vary(func(e *api.Event) { e.Seq = n })
		vary(func(e *api.Event) { e.Time = n })
		vary(func(e *api.Event) { e.Seq, e.Time = n, n })
	}
	for _, s := range []string{"k", "\x00", "\xff\xfe", "a b\n", longKey[2:], longKey[1:]} {
		vary(func(e *api.Event) { e.Key = s })
	}
	for _, s := range []string{"", "\x00", "\xff", strings.Repeat("t", 127), strings.Repeat("t", 128)} {
		vary(func(e *api.Event) { e.Text = []byte(s) })
	}
	vary(func(e *api.Event) { e.Text = nil })
	some := []float64{0, negativeZero, 1, -1.5, math.MaxFloat64, math.SmallestNonzeroFloat64, math.Inf(1), math.Inf(-1), math.NaN()}
	for _, x := range slices.Concat(some, nans) {
		vary(func(e *api.Event) { e.Num = x })
	}
	return l
}

// atTheLimit returns Sets with a text of the greatest length, and of one byte less.
func atTheLimit() []api.Event {
	e, f := full(api.Set), full(api.Set)
	e.Text, f.Text = longText[1:], longText[2:]
	return []api.Event{e, f}
}

// The tests of P6.1.

// TestKinds: the kinds' numbers are in files and letters, and may not change.
func TestKinds(t *testing.T) {
	if string(kinds) != "\x01\x02\x03\x04\x05\x06" {
		t.Errorf("% x", kinds)
	}
	for k := range 256 {
		e := full(byte(k))
		want := api.OK
		if k < 1 || k > 6 {
			want = api.ErrArg
		}
		if got := event.Right(e); got != want {
			t.Errorf("kind %d: %d, want %d", k, got, want)
		}
	}
}

func TestRight(t *testing.T) {
	for _, e := range append(rights(), atTheLimit()...) {
		if got := event.Right(e); got != api.OK {
			t.Errorf("Right(%s) = %d", brief(e), got)
		}
	}
}

// fault is a change that makes an event of some kinds wrong.
type fault struct {
	field  string
	want   api.Errno
	of     func(kind byte) bool
	change func(e *api.Event)
}

func anyKind(byte) bool { return true }

// faults returns every fault that P6.1 names, at the limit and far above it.
func faults() []fault {
	var l []fault
	for _, n := range []int{-1, 64, 65, math.MinInt, math.MaxInt} {
		l = append(l, fault{"Writer", api.ErrArg, anyKind, func(e *api.Event) { e.Writer = n }})
		l = append(l, fault{"Node", api.ErrArg, hasNode, func(e *api.Event) { e.Node = n }})
	}
	l = append(l, fault{"Seq", api.ErrArg, anyKind, func(e *api.Event) { e.Seq = 0 }})
	l = append(l, fault{"Time", api.ErrArg, anyKind, func(e *api.Event) { e.Time = 0 }})
	for _, n := range []uint64{api.End + 1, math.MaxUint64} {
		l = append(l, fault{"Seq", api.ErrExhausted, anyKind, func(e *api.Event) { e.Seq = n }})
		l = append(l, fault{"Time", api.ErrExhausted, anyKind, func(e *api.Event) { e.Time = n }})
	}
	for _, s := range []string{"", longKey, strings.Repeat("k", 1000)} {
		l = append(l, fault{"Key", api.ErrLong, hasKey, func(e *api.Event) { e.Key = s }})
	}
	l = append(l, fault{"Text", api.ErrLong, hasText, func(e *api.Event) { e.Text = longText }})
	for _, k := range noKinds {
		l = append(l, fault{"Kind", api.ErrArg, anyKind, func(e *api.Event) { e.Kind = k }})
	}
	return l
}

// TestRightFindsEveryFault, and finds none in a field that the kind does not use.
func TestRightFindsEveryFault(t *testing.T) {
	for _, f := range faults() {
		for _, k := range kinds {
			e := full(k)
			f.change(&e)
			want := api.OK
			if f.of(k) {
				want = f.want
			}
			if got := event.Right(e); got != want {
				t.Errorf("%s: Right(%s) = %d, want %d", f.field, brief(e), got, want)
			}
		}
	}
}

// TestRightReturnsTheFirstFault: of two and of three faults in different fields.
func TestRightReturnsTheFirstFault(t *testing.T) {
	check := func(kind byte, l ...fault) {
		e := full(kind)
		want := api.OK
		for _, f := range l {
			f.change(&e)
			// In P6.1 the errors come in the order of their numbers.
			if f.of(kind) && (want == api.OK || f.want < want) {
				want = f.want
			}
		}
		if got := event.Right(e); got != want {
			t.Errorf("Right(%s) = %d, want %d", brief(e), got, want)
		}
	}
	all := faults()
	for _, k := range kinds {
		for i, a := range all {
			for j, b := range all[:i] {
				if a.field == b.field {
					continue
				}
				check(k, a, b)
				for _, c := range all[:j] {
					if a.field != c.field && b.field != c.field {
						check(k, a, b, c)
					}
				}
			}
		}
	}
}

func TestPlain(t *testing.T) {
	for _, want := range []api.Event{
		{Writer: 1, Seq: 2, Time: 300, Kind: 1, Key: "key", Text: []byte("hi")},
		{Writer: 1, Seq: 2, Time: 300, Kind: 2, Key: "key", Num: 0.5},
		{Writer: 1, Seq: 2, Time: 300, Kind: 3, Key: "key", Num: 0.5},
		{Writer: 1, Seq: 2, Time: 300, Kind: 4, Key: "key"},
		{Writer: 1, Seq: 2, Time: 300, Kind: 5, Node: 5},
		{Writer: 1, Seq: 2, Time: 300, Kind: 6},
		{Writer: 1, Seq: 2, Time: 300, Kind: 0},
		{Writer: 1, Seq: 2, Time: 300, Kind: 7},
		{Writer: 1, Seq: 2, Time: 300, Kind: 255},
	} {
		if got := event.Plain(full(want.Kind)); !identical(got, want) {
			t.Errorf("Plain = %s, want %s", brief(got), brief(want))
		}
	}
	for _, e := range append(rights(), atTheLimit()...) {
		got := event.Plain(e)
		if !identical(got, plainOf(e)) {
			t.Errorf("Plain(%s) = %s", brief(e), brief(got))
		}
		if again := event.Plain(got); !identical(again, got) {
			t.Errorf("Plain(%s) = %s", brief(got), brief(again))
		}
	}
}

// TestPlainHasOneNaN, and keeps the sign of a zero.
func TestPlainHasOneNaN(t *testing.T) {
	for _, k := range []byte{api.Put, api.Add} {
		e := full(k)
		for _, x := range append(nans, math.NaN()) {
			e.Num = x
			if got := math.Float64bits(event.Plain(e).Num); got != canonical {
				t.Errorf("kind %d: %x becomes %x", k, math.Float64bits(x), got)
			}
		}
		e.Num = negativeZero
		if got := math.Float64bits(event.Plain(e).Num); got != 1<<63 {
			t.Errorf("kind %d: -0 becomes %x", k, got)
		}
	}
}

// TestPlainOfWrongEvents: Plain does not examine what a kind uses.
func TestPlainOfWrongEvents(t *testing.T) {
	for _, f := range faults() {
		for _, k := range slices.Concat(kinds, noKinds) {
			e := full(k)
			f.change(&e)
			if got := event.Plain(e); !identical(got, plainOf(e)) {
				t.Errorf("Plain(%s) = %s", brief(e), brief(got))
			}
		}
	}
}

// The tests of P6.3.

func TestAt(t *testing.T) {
	for _, k := range kinds {
		if got := event.At(full(k)); got != (api.Spot{Time: 300, Writer: 1}) {
			t.Errorf("At = %v", got)
		}
	}
	e := api.Event{Writer: math.MinInt, Time: math.MaxUint64}
	if got := event.At(e); got != (api.Spot{Time: math.MaxUint64, Writer: math.MinInt}) {
		t.Errorf("At = %v", got)
	}
}

func TestCompare(t *testing.T) {
	var ordered []api.Spot
	for _, time := range []uint64{0, 1, 2, 1 << 32, api.End, api.End + 1, math.MaxUint64} {
		for _, writer := range []int{math.MinInt, -1, 0, 1, 9, 63, math.MaxInt} {
			ordered = append(ordered, api.Spot{Time: time, Writer: writer})
		}
	}
	for i, a := range ordered {
		for k, b := range ordered {
			got := event.Compare(a, b)
			if (got < 0) != (i < k) || (got > 0) != (i > k) {
				t.Errorf("Compare(%v, %v) = %d", a, b, got)
			}
		}
	}
}

func TestSame(t *testing.T) {
	l := rights()
	for _, a := range l {
		for _, b := range l {
			if got, want := event.Same(a, b), laid(a) == laid(b); got != want {
				t.Errorf("Same(%s, %s) = %v", brief(a), brief(b), got)
			}
		}
		if !event.Same(a, event.Plain(a)) {
			t.Errorf("%s is not the same as its Plain", brief(a))
		}
	}
	long := atTheLimit()
	if !event.Same(long[0], long[0]) || event.Same(long[0], long[1]) {
		t.Error("Same of long texts")
	}
}

// TestSameLooksAtWhatKindsUse: fields that a kind uses make a difference, others do not.
func TestSameLooksAtWhatKindsUse(t *testing.T) {
	for _, c := range []struct {
		field  string
		of     func(kind byte) bool
		change func(e *api.Event)
	}{
		{"Writer", anyKind, func(e *api.Event) { e.Writer = 2 }},
		{"Seq", anyKind, func(e *api.Event) { e.Seq = 3 }},
		{"Time", anyKind, func(e *api.Event) { e.Time = 301 }},
		{"Key", hasKey, func(e *api.Event) { e.Key = "kez" }},
		{"Text", hasText, func(e *api.Event) { e.Text = []byte("hj") }},
		{"Num", hasNum, func(e *api.Event) { e.Num = 0.75 }},
		{"Num", hasNum, func(e *api.Event) { e.Num = math.NaN() }},
		{"Node", hasNode, func(e *api.Event) { e.Node = 6 }},
	} {
		for _, k := range kinds {
			a, b := full(k), full(k)
			c.change(&b)
			if event.Same(a, b) == c.of(k) || event.Same(b, a) == c.of(k) {
				t.Errorf("kind %d, another %s: Same = %v", k, c.field, event.Same(a, b))
			}
		}
	}
	for i, a := range kinds {
		for j, b := range kinds {
			if event.Same(full(a), full(b)) != (i == j) {
				t.Errorf("Same of the kinds %d and %d", a, b)
			}
		}
	}
}

// TestSameOfQuantities: -0 is not 0, and all NaNs are the same.
func TestSameOfQuantities(t *testing.T) {
	a, b := full(api.Put), full(api.Put)
	a.Num, b.Num = 0, negativeZero
	if event.Same(a, b) {
		t.Error("0 and -0")
	}
	for _, x := range nans {
		a.Num, b.Num = x, math.NaN()
		if !event.Same(a, b) {
			t.Errorf("NaNs of the bits %x", math.Float64bits(x))
		}
	}
}

// The tests of P1 and P2.

// TestAnyArguments is P1: nothing panics, whatever an event is.
func TestAnyArguments(t *testing.T) {
	for _, k := range slices.Concat(kinds, noKinds) {
		for _, n := range []int{math.MinInt, -1, 0, 64, math.MaxInt} {
			for _, m := range []uint64{0, api.End + 1, math.MaxUint64} {
				for _, key := range []string{"", "\xff", string(longText)} {
					e := api.Event{Writer: n, Seq: m, Time: m, Kind: k, Key: key, Text: longText, Num: nans[0], Node: n}
					if event.Right(e) == api.OK {
						t.Errorf("%s is right", brief(e))
					}
					event.Plain(e)
					event.Decode(event.Encode(e))
					event.Compare(event.At(e), event.At(api.Event{}))
					event.Same(e, api.Event{})
				}
			}
		}
	}
}

// TestAnswersDoNotDependOnEarlierCalls is P2: asked again, in another order, the answers are the same.
func TestAnswersDoNotDependOnEarlierCalls(t *testing.T) {
	l := rights()
	for _, f := range faults() {
		e := full(api.Set)
		f.change(&e)
		l = append(l, e)
	}
	ask := func(e api.Event) string {
		x, err := event.Decode(event.Encode(e))
		plain := event.Plain(e)
		return fmt.Sprint(event.Right(e), brief(plain), event.Encode(e), brief(x), err, event.At(e), event.Same(e, plain))
	}
	first := make([]string, len(l))
	for i, e := range l {
		first[i] = ask(e)
	}
	for i, e := range slices.Backward(l) {
		if got := ask(e); got != first[i] {
			t.Errorf("%s: %s, and before %s", brief(e), got, first[i])
		}
	}
}

// TestMemory is the rule on memory: arguments stay as they are, and results share nothing with them.
func TestMemory(t *testing.T) {
	e := full(api.Set)
	whole := []byte("hithere")
	e.Text = whole[:2]
	plain, p := event.Plain(e), event.Encode(e)
	x, err := event.Decode(p)
	if err != api.OK || !event.Same(x, e) || event.Right(e) != api.OK {
		t.Errorf("%s, %d", brief(x), err)
	}
	_ = append(plain.Text, "PPP"...)
	if string(whole) != "hithere" || string(p) != laid(e) {
		t.Errorf("%q, % x", whole, p)
	}
	clear(p)
	if !identical(x, plain) {
		t.Errorf("%s shares memory with its encoding", brief(x))
	}
	plain.Text[0], x.Text[0] = 'P', 'X'
	if string(whole) != "hithere" {
		t.Errorf("%q", whole)
	}
	whole[1] = 'W'
	if string(plain.Text) != "Pi" || string(x.Text) != "Xi" {
		t.Errorf("%q, %q", plain.Text, x.Text)
	}
}

// TestTextsMayBeAppendedTo is the rule on memory: what is appended to the text of an event stays, whatever is appended to that of a copy.
func TestTextsMayBeAppendedTo(t *testing.T) {
	for n := range 70 {
		e := full(api.Set)
		e.Text = bytes.Repeat([]byte("t"), n)
		x, err := event.Decode(event.Encode(e))
		if err != api.OK {
			t.Fatal(err)
		}
		for _, x := range []api.Event{x, event.Plain(e)} {
			copied := x
			a := append(x.Text, 'a')
			_ = append(copied.Text, 'b')
			if a[n] != 'a' {
				t.Errorf("the letter behind %d others became %c", n, a[n])
			}
		}
	}
}

package fold_test

import (
	"encoding/binary"
	"fmt"
	"hash/fnv"
	"maps"
	"math"
	"math/rand"
	"slices"
	"strings"
	"testing"

	"anabranch/api"
	"anabranch/event"
	"anabranch/fold"
)

var (
	negativeZero = math.Copysign(0, -1)
	plainNaN     = math.Float64frombits(0x7ff8000000000001)
	otherNaNs    = []float64{
		math.Float64frombits(0x7ff8000000000000), math.Float64frombits(0xfff8000000000001),
		math.Float64frombits(0x7ff0000000000001), math.Float64frombits(math.MaxUint64),
	}
)

// longKey is the longest key, and longText the longest text.
var (
	longKey  = strings.Repeat("k", api.MaxKey)
	longText = []byte(strings.Repeat("t", api.MaxText))
)

// badNodes are numbers of no node.
var badNodes = []int{math.MinInt, -1 << 32, -64, -1, 64, 65, 127, 128, 1 << 32, math.MaxInt}

// Events without a place in an order.

func set(key, text string) api.Event        { return api.Event{Kind: api.Set, Key: key, Text: []byte(text)} }
func put(key string, num float64) api.Event { return api.Event{Kind: api.Put, Key: key, Num: num} }
func add(key string, num float64) api.Event { return api.Event{Kind: api.Add, Key: key, Num: num} }
func drop(key string) api.Event             { return api.Event{Kind: api.Drop, Key: key} }
func join(node int) api.Event               { return api.Event{Kind: api.Join, Node: node} }
func retire() api.Event                     { return api.Event{Kind: api.Retire} }
func at(e api.Event, w int, s, time uint64) api.Event {
	e.Writer, e.Seq, e.Time = w, s, time
	return e
}

// play is a fold, with the nodes with which it began and the events that were applied to it. Of these alone its methods
// make what P11.1 and P11.2 say.
type play struct {
	f     *fold.Fold
	nodes int
	l     []api.Event
}

// begin returns a new fold.
func begin(nodes int) *play {
	return &play{f: fold.New(nodes), nodes: nodes}
}

// split returns the copy of a fold.
func (p *play) split() *play {
	return &play{f: p.f.Copy(), nodes: p.nodes, l: slices.Clone(p.l)}
}

// next returns e as the event of a writer that may be applied, one time behind the last one.
func (p *play) next(writer int, e api.Event) api.Event {
	return at(e, writer, p.have(writer)+1, p.last().Time+1)
}

// try applies e and checks the answer.
func (p *play) try(t *testing.T, e api.Event) api.Errno {
	t.Helper()
	want := p.answer(e)
	if got := p.f.Apply(e); got != want {
		t.Errorf("Apply(%s): %d, want %d", brief(e), got, want)
	}
	if want == api.OK {
		p.l = append(p.l, e)
	}
	return want
}

// apply applies the next events of a writer.
func (p *play) apply(t *testing.T, writer int, l ...api.Event) {
	t.Helper()
	for _, e := range l {
		if err := p.try(t, p.next(writer, e)); err != api.OK {
			t.Fatalf("%s is no next event: %d", brief(e), err)
		}
	}
}

// answer returns what Apply is to return for e.
func (p *play) answer(e api.Event) api.Errno {
	last := p.last()
	switch wrong := event.Right(e); {
	case wrong != api.OK:
		return wrong
	case e.Time < last.Time, e.Time == last.Time && e.Writer <= last.Writer:
		return api.ErrOld
	case e.Seq != p.have(e.Writer)+1:
		return api.ErrGap
	}
	return api.OK
}

func (p *play) last() api.Spot {
	if len(p.l) == 0 {
		return api.Spot{}
	}
	e := p.l[len(p.l)-1]
	return api.Spot{Time: e.Time, Writer: e.Writer}
}

func (p *play) have(writer int) uint64 {
	n := uint64(0)
	for _, e := range p.l {
		if e.Writer == writer {
			n++
		}
	}
	return n
}

func (p *play) vector() []uint64 {
	var v []uint64
	for w := range 64 {
		if n := p.have(w); n > 0 {
			v = append(append(v, make([]uint64, w-len(v))...), n)
		}
	}
	return v
}

func (p *play) joined(n int) bool {
	return n >= 0 && n < 64 && (n < p.nodes || slices.ContainsFunc(p.l, func(e api.Event) bool { return e.Kind == api.Join && e.Node == n }))
}

func (p *play) retired(n int) bool {
	return slices.ContainsFunc(p.l, func(e api.Event) bool { return e.Kind == api.Retire && e.Writer == n })
}

func (p *play) mark() uint64 {
	h := fnv.New64a()
	for _, e := range p.l {
		h.Write(event.Encode(e))
	}
	return h.Sum64()
}

// value returns what the events that use a key make of it.
func (p *play) value(key string) (api.Cell, bool) {
	var c api.Cell
	for _, e := range p.l {
		switch {
		case e.Kind >= api.Join || e.Key != key:
		case e.Kind == api.Set:
			c = api.Cell{Kind: api.Set, Text: e.Text}
		case e.Kind == api.Add && c.Kind == api.Put:
			c.Num = plain(c.Num + e.Num)
		case e.Kind == api.Drop:
			c = api.Cell{}
		default:
			c = api.Cell{Kind: api.Put, Num: plain(e.Num)}
		}
	}
	return c, c.Kind != 0
}

// keys returns the keys that have values, in order, and all that events name.
func (p *play) keys() (valued, named []string) {
	seen := map[string]int{}
	for _, e := range p.l {
		seen[e.Key]++
	}
	named = slices.Sorted(maps.Keys(seen))
	for _, key := range named {
		if _, ok := p.value(key); ok {
			valued = append(valued, key)
		}
	}
	return valued, named
}

// parts returns what the encoding of the fold consists of.
func (p *play) parts() parts {
	x := parts{have: p.vector(), time: p.last().Time, writer: uint64(p.last().Writer), mark: p.mark()}
	for n := range 64 {
		if p.joined(n) {
			x.joined |= 1 << n
		}
		if p.retired(n) {
			x.retired |= 1 << n
		}
	}
	valued, _ := p.keys()
	for _, key := range valued {
		c, _ := p.value(key)
		x.cells = append(x.cells, laidCell(key, c))
	}
	x.count = uint64(len(x.cells))
	return x
}

// plain returns the one NaN for every NaN.
func plain(x float64) float64 {
	if x != x {
		return plainNaN
	}
	return x
}

// parts are what an encoding consists of, whether or not it is that of a fold.
type parts struct {
	have                         []uint64
	time, writer                 uint64
	joined, retired, mark, count uint64
	cells                        []string
}

// laid returns parts as P11.3 says, made without the program's packages.
func laid(x parts) string {
	p := binary.AppendUvarint(nil, uint64(len(x.have)))
	for _, n := range x.have {
		p = binary.AppendUvarint(p, n)
	}
	p = binary.AppendUvarint(binary.AppendUvarint(p, x.time), x.writer)
	for _, n := range []uint64{x.joined, x.retired, x.mark} {
		p = binary.BigEndian.AppendUint64(p, n)
	}
	p = binary.AppendUvarint(p, x.count)
	return string(p) + strings.Join(x.cells, "")
}

// laidText returns the length of a text, and the text.
func laidText(s string) string {
	return string(binary.AppendUvarint(nil, uint64(len(s)))) + s
}

// laidNum returns the kind Put and a quantity with these bits.
func laidNum(bits uint64) string {
	return "\x02" + string(binary.BigEndian.AppendUint64(nil, bits))
}

// laidCell returns a key and its value.
func laidCell(key string, c api.Cell) string {
	if c.Kind == api.Set {
		return laidText(key) + "\x01" + laidText(string(c.Text))
	}
	return laidText(key) + laidNum(math.Float64bits(c.Num))
}

// sameCell reports whether two values are the same, to the bits of the quantity.
func sameCell(a, b api.Cell) bool {
	return a.Kind == b.Kind && string(a.Text) == string(b.Text) && math.Float64bits(a.Num) == math.Float64bits(b.Num)
}

func brief(e api.Event) string {
	return fmt.Sprintf("%d.%d at %d, kind %d, %.20q, %.20q, %v, node %d", e.Writer, e.Seq, e.Time, e.Kind, e.Key, e.Text, e.Num, e.Node)
}

func wantError(t *testing.T, what string, got, want api.Errno) {
	t.Helper()
	if got != want {
		t.Errorf("%s: %d, want %d", what, got, want)
	}
}

// wantCell checks the value of a key.
func wantCell(t *testing.T, f *fold.Fold, key string, want api.Cell) {
	t.Helper()
	if got, ok := f.Cell(key); ok != (want.Kind != 0) || !sameCell(got, want) {
		t.Errorf("Cell(%.20q) = %.60v, %v, want %.60v", key, got, ok, want)
	}
}

// wantState checks everything that a fold tells, against its events.
func wantState(t *testing.T, what string, p *play) {
	t.Helper()
	valued, named := p.keys()
	if got := p.f.Keys(); !slices.Equal(got, valued) {
		t.Errorf("%s: Keys() = %.60q, want %.60q", what, got, valued)
	}
	for _, key := range append(named, "", "nothing", longKey+"k") {
		want, _ := p.value(key)
		wantCell(t, p.f, key, want)
	}
	wantNodes(t, what, p)
	if got := p.f.Have(); !slices.Equal(got, p.vector()) {
		t.Errorf("%s: Have() = %v, want %v", what, got, p.vector())
	}
	if p.f.Last() != p.last() || p.f.Mark() != p.mark() {
		t.Errorf("%s: Last() = %v, Mark() = %x, want %v, %x", what, p.f.Last(), p.f.Mark(), p.last(), p.mark())
	}
	if got := string(p.f.Encode()); got != laid(p.parts()) {
		t.Errorf("%s: Encode() = %.200q, want %.200q", what, got, laid(p.parts()))
	}
	if t.Failed() {
		t.FailNow()
	}
}

// wantNodes checks what a fold tells about nodes.
func wantNodes(t *testing.T, what string, p *play) {
	t.Helper()
	var members []int
	for n := -2; n < 70; n++ {
		joined, retired := p.joined(n), p.retired(n)
		if joined && !retired {
			members = append(members, n)
		}
		if p.f.Joined(n) != joined || p.f.Retired(n) != retired || p.f.Member(n) != (joined && !retired) {
			t.Errorf("%s: node %d: joined %v, retired %v, member %v, want %v, %v", what, n, p.f.Joined(n), p.f.Retired(n), p.f.Member(n), joined, retired)
		}
	}
	for _, n := range badNodes {
		if p.f.Joined(n) || p.f.Retired(n) || p.f.Member(n) {
			t.Errorf("%s: %d is no node", what, n)
		}
	}
	if got := p.f.Members(); !slices.Equal(got, members) {
		t.Errorf("%s: Members() = %v, want %v", what, got, members)
	}
}

// plays returns folds with different nodes, keys and values.
func plays(t *testing.T) []*play {
	t.Helper()
	var l []*play
	for _, nodes := range []int{0, 1, 64} {
		l = append(l, begin(nodes))
	}
	one := begin(1)
	one.apply(t, 0, set("k", "hi"))
	some := begin(2)
	some.apply(t, 1, set("t", ""), put("q", 0.5), add("z", negativeZero))
	some.apply(t, 0, set("u", "text"), add("n", math.NaN()), put("i", math.Inf(-1)), join(63), drop("q"))
	some.apply(t, 63, retire())
	long := begin(3)
	long.apply(t, 5, set(longKey, strings.Repeat("t", 300)), put("\x00", 1), put("\xff\xfe", math.MaxFloat64), join(5))
	all := begin(64)
	for w := range 64 {
		all.apply(t, w, put(fmt.Sprint("key", w), float64(w)), retire())
	}
	return append(l, one, some, long, all, random(t, rand.New(rand.NewSource(110)), 200))
}

// random returns a fold with n random events.
func random(t *testing.T, r *rand.Rand, n int) *play {
	t.Helper()
	p := begin(r.Intn(66))
	for range n {
		e := randomEvent(r)
		p.apply(t, e.Writer, e)
	}
	return p
}

// randomEvent returns an event of which every field has a value, with few keys and writers.
func randomEvent(r *rand.Rand) api.Event {
	nums := []float64{0, negativeZero, 1, 0.5, -3, math.Inf(1), math.Inf(-1), plainNaN, otherNaNs[1], math.MaxFloat64, r.NormFloat64()}
	return api.Event{
		Writer: r.Intn(4) * 21, Seq: 1, Time: 1, Kind: byte(1 + r.Intn(6)), Node: r.Intn(64),
		Key: strings.Repeat(string(rune('a'+r.Intn(4))), 1+r.Intn(2)), Text: []byte(strings.Repeat("t", r.Intn(20))), Num: nums[r.Intn(len(nums))],
	}
}

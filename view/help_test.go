package view_test

import (
	"cmp"
	"encoding/binary"
	"fmt"
	"hash/fnv"
	"math"
	"math/rand"
	"slices"
	"strings"
	"testing"

	"anabranch/api"
	"anabranch/fold"
	"anabranch/view"
)

var (
	negativeZero = math.Copysign(0, -1)
	plainNaN     = math.Float64frombits(0x7ff8000000000001)
	otherNaN     = math.Float64frombits(0xfff8000000000001)
	longKey      = strings.Repeat("k", api.MaxKey)
)

// Events without a place in the order.

func set(key, text string) api.Event        { return api.Event{Kind: api.Set, Key: key, Text: []byte(text)} }
func put(key string, num float64) api.Event { return api.Event{Kind: api.Put, Key: key, Num: num} }
func add(key string, num float64) api.Event { return api.Event{Kind: api.Add, Key: key, Num: num} }
func drop(key string) api.Event             { return api.Event{Kind: api.Drop, Key: key} }
func join(node int) api.Event               { return api.Event{Kind: api.Join, Node: node} }
func retire() api.Event                     { return api.Event{Kind: api.Retire} }

// at returns e as the event seq of a writer.
func at(writer int, seq, time uint64, e api.Event) api.Event {
	e.Writer, e.Seq, e.Time = writer, seq, time
	return e
}

// spot returns a position, and place that of an event.
func spot(time uint64, w int) api.Spot { return api.Spot{Time: time, Writer: w} }
func place(e api.Event) api.Spot       { return spot(e.Time, e.Writer) }

// versus is below 0 if a comes before b, as P6.3 says it.
func versus(a, b api.Spot) int {
	if a.Time != b.Time {
		return cmp.Compare(a.Time, b.Time)
	}
	return cmp.Compare(a.Writer, b.Writer)
}

// behind returns the events of l that come after s.
func behind(l []api.Event, s api.Spot) []api.Event {
	return slices.DeleteFunc(slices.Clone(l), func(e api.Event) bool { return versus(place(e), s) <= 0 })
}

// clipped returns the first events of l, at most most.
func clipped(l []api.Event, most int) []api.Event {
	return l[:max(0, min(most, len(l)))]
}

// copied returns a copy of lists that shares no memory with them.
func copied(lists [][]api.Event) [][]api.Event {
	c := make([][]api.Event, len(lists))
	for i, l := range lists {
		for _, e := range l {
			e.Text = slices.Clone(e.Text)
			c[i] = append(c[i], e)
		}
	}
	return c
}

// same reports whether two events are equal in every field, whether or not their kinds use them.
func same(a, b api.Event) bool {
	return a.Writer == b.Writer && a.Seq == b.Seq && a.Time == b.Time && a.Kind == b.Kind && a.Key == b.Key &&
		string(a.Text) == string(b.Text) && math.Float64bits(a.Num) == math.Float64bits(b.Num) && a.Node == b.Node
}

// sameCell reports whether two values are the same, to the bits of the quantity.
func sameCell(a, b api.Cell) bool {
	return a.Kind == b.Kind && string(a.Text) == string(b.Text) && math.Float64bits(a.Num) == math.Float64bits(b.Num)
}

// told and toldCell return an event and a value as a short text.
func told(e api.Event) string {
	return fmt.Sprintf("%d.%d at %d, kind %d, %.20q, %.20q, %v, node %d", e.Writer, e.Seq, e.Time, e.Kind, e.Key, e.Text, e.Num, e.Node)
}
func toldCell(c api.Cell) string { return fmt.Sprintf("kind %d, %.20q, %v", c.Kind, c.Text, c.Num) }

// brief returns the positions of events.
func brief(l []api.Event) []api.Spot {
	var s []api.Spot
	for _, e := range l {
		s = append(s, place(e))
	}
	return s
}

// history is events in the order of all events, before which nodes nodes have joined. Of these alone its methods make what
// there is to see, without the program's packages.
type history struct {
	name  string
	nodes int
	l     []api.Event
}

// add appends e as the next event of a writer.
func (h *history) add(time uint64, w int, e api.Event) {
	h.l = append(h.l, at(w, h.have()[w]+1, time, e))
}

// first returns the history of the first n events.
func (h history) first(n int) history {
	return history{fmt.Sprintf("%s, the first %d", h.name, n), h.nodes, h.l[:n]}
}

// fold returns the fold of all events, made by applying them.
func (h history) fold(t *testing.T) *fold.Fold {
	t.Helper()
	f := fold.New(h.nodes)
	for _, e := range h.l {
		if wrong := f.Apply(e); wrong != api.OK {
			t.Fatalf("%s: Apply(%s): %d", h.name, told(e), wrong)
		}
	}
	return f
}

func (h history) have() (v [64]uint64) {
	for _, e := range h.l {
		v[e.Writer]++
	}
	return v
}

// vector returns have without trailing zeros.
func (h history) vector() []uint64 {
	v, n := h.have(), 64
	for n > 0 && v[n-1] == 0 {
		n--
	}
	return v[:n]
}

func (h history) last() api.Spot {
	if len(h.l) == 0 {
		return api.Spot{}
	}
	return place(h.l[len(h.l)-1])
}

func (h history) mark() uint64 {
	hash := fnv.New64a()
	for _, e := range h.l {
		hash.Write([]byte(encoded(e)))
	}
	return hash.Sum64()
}

func (h history) joined(n int) bool {
	return n < h.nodes || slices.ContainsFunc(h.l, func(e api.Event) bool { return e.Kind == api.Join && e.Node == n })
}

func (h history) retired(n int) bool {
	return slices.ContainsFunc(h.l, func(e api.Event) bool { return e.Kind == api.Retire && e.Writer == n })
}

func (h history) members() []int {
	var l []int
	for n := range 64 {
		if h.joined(n) && !h.retired(n) {
			l = append(l, n)
		}
	}
	return l
}

// cells returns the values of the keys that have one.
func (h history) cells() map[string]api.Cell {
	values := map[string]api.Cell{}
	for _, e := range h.l {
		switch c := values[e.Key]; {
		case e.Kind == api.Set:
			values[e.Key] = api.Cell{Kind: api.Set, Text: e.Text}
		case e.Kind == api.Add && c.Kind == api.Put:
			values[e.Key] = api.Cell{Kind: api.Put, Num: plain(c.Num + e.Num)}
		case e.Kind == api.Add || e.Kind == api.Put:
			values[e.Key] = api.Cell{Kind: api.Put, Num: plain(e.Num)}
		case e.Kind == api.Drop:
			delete(values, e.Key)
		}
	}
	return values
}

func (h history) keys() []string {
	var keys []string
	for key := range h.cells() {
		keys = append(keys, key)
	}
	slices.Sort(keys)
	return keys
}

// encoded returns the encoding of the fold of all events (P11.3).
func (h history) encoded() string {
	v := h.vector()
	p := binary.AppendUvarint(nil, uint64(len(v)))
	for _, n := range v {
		p = binary.AppendUvarint(p, n)
	}
	p = binary.AppendUvarint(binary.AppendUvarint(p, h.last().Time), uint64(h.last().Writer))
	var joined, retired uint64
	for n := range 64 {
		if h.joined(n) {
			joined |= 1 << n
		}
		if h.retired(n) {
			retired |= 1 << n
		}
	}
	for _, n := range []uint64{joined, retired, h.mark()} {
		p = binary.BigEndian.AppendUint64(p, n)
	}
	cells := h.cells()
	s := string(binary.AppendUvarint(p, uint64(len(cells))))
	for _, key := range h.keys() {
		if c := cells[key]; c.Kind == api.Set {
			s += laid(key) + "\x01" + laid(string(c.Text))
		} else {
			s += laid(key) + "\x02" + fixed(c.Num)
		}
	}
	return s
}

// plain returns the one NaN for every NaN.
func plain(x float64) float64 {
	if x != x {
		return plainNaN
	}
	return x
}

// laid returns the length of a text, and the text.
func laid(s string) string {
	return string(binary.AppendUvarint(nil, uint64(len(s)))) + s
}

// fixed returns the bits of a quantity.
func fixed(x float64) string {
	return string(binary.BigEndian.AppendUint64(nil, math.Float64bits(plain(x))))
}

// encoded returns the encoding of an event (P6.2).
func encoded(e api.Event) string {
	p := binary.AppendUvarint(nil, uint64(e.Writer))
	s := string(append(binary.AppendUvarint(binary.AppendUvarint(p, e.Seq), e.Time), e.Kind))
	switch e.Kind {
	case api.Set:
		return s + laid(e.Key) + laid(string(e.Text))
	case api.Put, api.Add:
		return s + laid(e.Key) + fixed(e.Num)
	case api.Drop:
		return s + laid(e.Key)
	case api.Join:
		return s + string(binary.AppendUvarint(nil, uint64(e.Node)))
	}
	return s
}

// histories returns events of each kind and order.
func histories() []history {
	one := history{name: "one event", nodes: 1}
	one.add(1, 0, set("k", "hi"))
	kinds := history{name: "one writer", nodes: 1}
	for i, e := range []api.Event{set("a", "x"), put("a", 1), add("a", 2), drop("a"), add("a", 0.5), join(7), set("b", ""), add("b", negativeZero), put("c", otherNaN), retire()} {
		kinds.add(uint64(3*i+2), 0, e)
	}
	several := history{name: "several writers", nodes: 3}
	several.add(1, 1, set("k", "first"))
	several.add(1, 2, set("k", "second"))
	several.add(2, 0, add("n", 1))
	several.add(2, 1, add("n", math.Inf(1)))
	several.add(2, 63, join(63))
	several.add(5, 0, add("n", math.Inf(-1)))
	several.add(5, 63, drop("k"))
	several.add(9, 2, retire())
	several.add(9, 63, set("z", "last"))
	several.add(10, 0, set("k", "again"))
	limits := history{name: "the limits", nodes: 64}
	limits.add(1, 0, set(longKey, strings.Repeat("t", 1<<12)))
	limits.add(api.End-1, 63, put(longKey, math.MaxFloat64))
	limits.add(api.End, 0, join(0))
	limits.add(api.End, 63, set("\x00\xff", "\x00\xff"))
	all := history{name: "all writers", nodes: 2}
	for w := range 64 {
		all.add(uint64(1+w/9), w, put(fmt.Sprint("key", w%7), float64(w)))
	}
	for w := range 64 {
		all.add(uint64(100-w), 63-w, []api.Event{retire(), join(w / 2), add("key3", 1)}[w%3])
	}
	slices.SortFunc(all.l, func(a, b api.Event) int { return versus(place(a), place(b)) })
	l := []history{
		{name: "no events, no nodes"}, {name: "no events", nodes: 1}, {name: "no events, all nodes", nodes: 64},
		one, kinds, several, limits, all,
	}
	r := rand.New(rand.NewSource(151))
	for i := range 12 {
		l = append(l, random(r, fmt.Sprint("random events ", i), 1+r.Intn(40)))
	}
	return l
}

// random returns a history of n random events, of few keys and writers, of which several have the same time.
func random(r *rand.Rand, name string, n int) history {
	h := history{name: name, nodes: r.Intn(5)}
	nums := []float64{0, negativeZero, 1, 0.5, -3, math.Inf(1), math.Inf(-1), plainNaN, otherNaN, math.MaxFloat64, r.NormFloat64()}
	for range n {
		s := spot(max(1, h.last().Time+uint64(r.Intn(3))), r.Intn(4)*21)
		if versus(s, h.last()) <= 0 {
			s.Time = h.last().Time + 1
		}
		key, text, num := strings.Repeat(string(rune('a'+r.Intn(3))), 1+r.Intn(2)), strings.Repeat("t", r.Intn(20)), nums[r.Intn(len(nums))]
		h.add(s.Time, s.Writer, []api.Event{set(key, text), put(key, num), add(key, num), drop(key), join(r.Intn(64)), retire()}[r.Intn(6)])
	}
	return h
}

// split is events in lists.
type split struct {
	name  string
	lists [][]api.Event
}

// splits returns events in lists in different ways, each list in order.
func splits(l []api.Event) []split {
	writers, others, single := make([][]api.Event, 64), make([][]api.Event, 66), [][]api.Event{{}}
	for _, e := range l {
		writers[e.Writer] = append(writers[e.Writer], e)
		others[64-e.Writer] = append(others[64-e.Writer], e)
		single = append(single, []api.Event{e}, nil)
	}
	slices.Reverse(single)
	others[0], others[65] = []api.Event{}, []api.Event{}
	dealt := make([][]api.Event, 3)
	for i, e := range l {
		dealt[i*i%3] = append(dealt[i*i%3], e)
	}
	half := len(l) / 2
	return []split{
		{"a list a writer", writers},
		{"a list a writer, the other way round, with empty ones", others},
		{"one list", [][]api.Event{l}},
		{"one list among empty ones", [][]api.Event{nil, {}, l, nil}},
		{"a list an event", single},
		{"lists of several writers", dealt},
		{"the later ones first", [][]api.Event{l[half:], l[:half]}},
	}
}

// by returns the view of a history of which so many events are folded.
func by(t *testing.T, h history, folded int) *view.View {
	t.Helper()
	v, e := view.By(h.first(folded).fold(t), [][]api.Event{h.l[folded:]})
	if e != api.OK || v == nil {
		t.Fatalf("%s: By, with %d folded: %v, %d", h.name, folded, v != nil, e)
	}
	return v
}

// wantView checks everything that a view of a history tells, of which so many events are folded.
func wantView(t *testing.T, what string, v *view.View, h history, folded int) {
	t.Helper()
	wantState(t, what, v, h)
	if got, want := string(v.Base().Encode()), h.first(folded).encoded(); got != want {
		t.Errorf("%s: Base() = %.200q, want %.200q", what, got, want)
	}
	rest := h.l[folded:]
	if v.Len() != len(rest) {
		t.Errorf("%s: Len() = %d, want %d", what, v.Len(), len(rest))
	}
	for i, want := range rest {
		if e, ok := v.At(i); !ok || !same(e, want) {
			t.Errorf("%s: At(%d) = %s, %v, want %s", what, i, told(e), ok, told(want))
		}
	}
	for _, i := range outside(len(rest)) {
		if e, ok := v.At(i); ok || !same(e, api.Event{}) {
			t.Errorf("%s: At(%d) of %d = %s, %v", what, i, len(rest), told(e), ok)
		}
	}
	wantRanges(t, what, v, h, folded)
	if t.Failed() {
		t.FailNow()
	}
}

// outside returns numbers that are no index of n events.
func outside(n int) []int {
	return []int{math.MinInt, -n - 1, -2, -1, n, n + 1, 2*n + 64, 1 << 32, math.MaxInt}
}

// wantState checks what a view tells of the state behind all events.
func wantState(t *testing.T, what string, v *view.View, h history) {
	t.Helper()
	if got, want := string(v.Fold().Encode()), h.encoded(); got != want {
		t.Errorf("%s: Fold() = %.200q, want %.200q", what, got, want)
	}
	if v.Mark() != h.mark() {
		t.Errorf("%s: Mark() = %x, want %x", what, v.Mark(), h.mark())
	}
	if got := v.Have(); !slices.Equal(got, h.vector()) {
		t.Errorf("%s: Have() = %v, want %v", what, got, h.vector())
	}
	if got := v.Members(); !slices.Equal(got, h.members()) {
		t.Errorf("%s: Members() = %v, want %v", what, got, h.members())
	}
	if got := v.Keys(); !slices.Equal(got, h.keys()) {
		t.Errorf("%s: Keys() = %.80q, want %.80q", what, got, h.keys())
	}
	cells := h.cells()
	for _, e := range append(slices.Clone(h.l), drop(""), drop("nothing"), drop(longKey+"k")) {
		want, has := cells[e.Key]
		if c, ok := v.Cell(e.Key); ok != has || !sameCell(c, want) {
			t.Errorf("%s: Cell(%.20q) = %s, %v, want %s, %v", what, e.Key, toldCell(c), ok, toldCell(want), has)
		}
	}
}

// wantRanges checks Range from many positions.
func wantRanges(t *testing.T, what string, v *view.View, h history, folded int) {
	t.Helper()
	last := h.first(folded).last()
	for _, s := range places(h.l) {
		if versus(s, last) < 0 {
			for _, most := range []int{math.MinInt, -1, 0, 1, math.MaxInt} {
				if l, e := v.Range(s, most); len(l) != 0 || e != api.ErrFolded {
					t.Errorf("%s: Range(%v, %d) before %v = %v, %d", what, s, most, last, brief(l), e)
				}
			}
			continue
		}
		want := behind(h.l[folded:], s)
		n := len(want)
		for _, most := range []int{math.MinInt, -1, 0, 1, n - 1, n, n + 1, math.MaxInt} {
			if l, e := v.Range(s, most); e != api.OK || !slices.EqualFunc(l, clipped(want, most), same) {
				t.Errorf("%s: Range(%v, %d) = %v, %d, want %v", what, s, most, brief(l), e, brief(clipped(want, most)))
			}
		}
	}
}

// places returns the positions of some events, those next to them, and those at the limits.
func places(l []api.Event) []api.Spot {
	p := []api.Spot{{}, spot(0, math.MinInt), spot(0, -1), spot(0, 1), spot(0, math.MaxInt), spot(api.End, 63), spot(math.MaxUint64, math.MinInt), spot(math.MaxUint64, math.MaxInt)}
	step := 1 + len(l)/12
	for i := 0; i < len(l); i += step {
		s := place(l[i])
		p = append(p, s, spot(s.Time, s.Writer-1), spot(s.Time, s.Writer+1), spot(s.Time-1, 64), spot(s.Time+1, 0))
	}
	if len(l) > 0 {
		p = append(p, place(l[len(l)-1]))
	}
	return p
}

// TestHistories: they are what fold.Apply takes, and their folds are what is expected of them.
func TestHistories(t *testing.T) {
	for _, h := range histories() {
		if f := h.fold(t); string(f.Encode()) != h.encoded() || f.Mark() != h.mark() || f.Last() != h.last() {
			t.Errorf("%s: %.200q, want %.200q", h.name, f.Encode(), h.encoded())
		}
		for _, s := range splits(h.l) {
			n := 0
			for _, l := range s.lists {
				n += len(l)
				if !slices.IsSortedFunc(l, func(a, b api.Event) int { return versus(place(a), place(b)) }) {
					t.Errorf("%s, %s: a list is not in order", h.name, s.name)
				}
			}
			if n != len(h.l) {
				t.Errorf("%s, %s: %d events", h.name, s.name, n)
			}
		}
	}
}

package replica_test

import (
	"fmt"
	"math"
	"slices"
	"strings"
	"testing"

	"anabranch/api"
	"anabranch/disk"
	"anabranch/letter"
	"anabranch/replica"
)

// The tests of P1 and P2, of P18.2 for nil objects, and of the rule on memory.

// odd are events with odd values in each field.
func odd() []api.Event {
	var l []api.Event
	for kind := range byte(10) {
		l = append(l, api.Event{Kind: kind})
		for _, n := range noNodes {
			l = append(l, api.Event{Writer: n, Kind: kind, Key: "k", Node: n})
		}
		for _, n := range []uint64{1, api.End, api.End + 1, math.MaxUint64} {
			l = append(l, api.Event{Seq: n, Time: n, Kind: kind, Key: "k"})
		}
		for _, key := range []string{"\x00", "\xff", strings.Repeat("k", api.MaxKey), strings.Repeat("k", api.MaxKey+1)} {
			l = append(l, api.Event{Kind: kind, Key: key, Text: []byte(key), Num: math.NaN()})
		}
	}
	return l
}

// TestNil is P18.2: a nil replica returns ErrNone, false, 0 and zero values.
func TestNil(t *testing.T) {
	var r *replica.Replica
	if r.Store() != nil || r.Matrix() != nil || r.View() != nil || len(r.Vector()) > 0 || r.Stable() != 0 {
		t.Error("a nil replica has something")
	}
	for _, e := range append(odd(), set("k", "v"), join(1), retire()) {
		if x, wrong := r.Write(e); !sameEvent(x, api.Event{}) || wrong != api.ErrNone {
			t.Errorf("Write(%v) = %v, %d", e, x, wrong)
		}
	}
	for _, key := range []string{"", "k", strings.Repeat("k", 100)} {
		if c, ok := r.Read(key); ok || !sameCell(c, api.Cell{}) {
			t.Errorf("Read(%q) = %v, %v", key, c, ok)
		}
	}
	wantError(t, "Truncate", r.Truncate(), api.ErrNone)
	for _, to := range append([]int{0, 1, 63}, noNodes...) {
		if p, e := r.Begin(to); len(p) > 0 || e != api.ErrNone {
			t.Errorf("Begin(%d) = %x, %d", to, p, e)
		}
	}
	hello := letter.Encode(letter.Letter{Kind: letter.Hello, From: 1, Mine: true, Serial: 1})
	for _, p := range [][]byte{nil, {}, []byte("junk"), hello, hello[:5]} {
		if l, e := r.Hear(p); len(l) > 0 || e != api.ErrNone {
			t.Errorf("Hear(%x) = %v, %d", p, l, e)
		}
	}
	wantStable(t, "nil", r, 0)
}

// use makes every call of a replica, with many arguments. The results do not matter.
func use(r *replica.Replica, letters [][]byte) {
	ask := func() {
		r.Store()
		r.Matrix()
		r.View()
		r.Vector()
		r.Stable()
		for _, key := range []string{"", "k", "\xff", strings.Repeat("k", 1000)} {
			r.Read(key)
		}
	}
	for range 2 {
		ask()
		for _, e := range odd() {
			r.Write(e)
		}
		for _, to := range append([]int{0, 1, 2, 63}, noNodes...) {
			r.Begin(to)
		}
		for _, p := range letters {
			r.Hear(p)
			ask()
		}
		r.Truncate()
	}
}

// letters returns bytes for each kind of letter, and some that are none.
func letters(t *testing.T) [][]byte {
	t.Helper()
	l := [][]byte{nil, {}, []byte("junk")}
	for _, x := range kinds(t, open(t, 0, config)) {
		p := letter.Encode(x)
		l = append(l, p, p, p[1:], p[:len(p)-1])
		x.From, x.To = 63, 63
		l = append(l, letter.Encode(x))
	}
	return l
}

// TestOddReplicas is P1: calls end without a panic, for any config, for a disk that has stopped or stops, and for an object that
// Open did not make.
func TestOddReplicas(t *testing.T) {
	l := letters(t)
	use(&replica.Replica{}, l)
	for _, n := range []int{math.MinInt, -1, 0, 1, 2, 1 << 40, math.MaxInt} {
		for _, c := range []api.Config{{Nodes: n, Segment: 60, Room: 1, Batch: 1, Chunk: 1}, {Nodes: 3, Segment: n, Room: n, Batch: n, Chunk: n}, {Nodes: n, Segment: n, Room: n, Batch: n, Chunk: n}} {
			use(open(t, 0, c), l)
		}
	}
	for stop := range 60 {
		d := disk.New(wide)
		r := havingOn(t, d, 0, config, events())
		d.Arm(stop, stop)
		use(r, l)
		if d.On() {
			t.Errorf("the disk does not stop at operation %d", stop)
		}
	}
}

// TestTheSameAgain is P2: equal calls of equal objects have equal answers, whatever other objects were asked in between, and what
// only asks changes nothing.
func TestTheSameAgain(t *testing.T) {
	a, b, other := having(t, 0, config, events()), having(t, 0, config, events()), having(t, 0, config, events()[:2])
	everywhere(t, a, 5, 1, 2)
	everywhere(t, b, 5, 1, 2)
	for _, p := range letters(t) {
		l, e := a.Hear(p)
		use(other, [][]byte{p})
		m, wrong := b.Hear(p)
		if e != wrong || fmt.Sprint(l) != fmt.Sprint(m) || a.Stable() != b.Stable() || state(a) != state(b) {
			t.Fatalf("Hear(%x): %v, %d, and %v, %d; %s, and %s", p, l, e, m, wrong, state(a), state(b))
		}
		before, stable := state(a), a.Stable()
		for range 3 {
			a.Read("k")
			a.View()
			a.Vector()
			wantStable(t, "asked again", a, stable)
		}
		if state(a) != before {
			t.Fatalf("what only asks has changed %s to %s", before, state(a))
		}
	}
	x, e := a.Write(set("k", "v"))
	y, wrong := b.Write(set("k", "v"))
	if !sameEvent(x, y) || e != wrong || a.Truncate() != b.Truncate() || state(a) != state(b) {
		t.Errorf("Write: %v, %d, and %v, %d", x, e, y, wrong)
	}
}

// behind returns a copy of bytes, with others behind them in the same memory.
func behind(p []byte) []byte { return append(slices.Clone(p), "behind"...)[:len(p)] }

// untouched reports whether bytes and what is behind them are as behind made them.
func untouched(p, before []byte) bool {
	return string(p) == string(before) && string(p[:len(p)+6][len(p):]) == "behind"
}

// spoil overwrites bytes, and what is behind them.
func spoil(p []byte) {
	p = p[:cap(p)]
	for i := range p {
		p[i] = 'X'
	}
}

// TestArguments: they stay as they are, and nothing that is kept depends on them.
func TestArguments(t *testing.T) {
	r, want := having(t, 0, config, events()), having(t, 0, config, events())
	for _, x := range kinds(t, want) {
		if x.Kind == letter.Summary {
			x.Serial = decoded(t, begin(t, r, 1)).Serial
		}
		before := letter.Encode(x)
		p := behind(before)
		l, e := r.Hear(p)
		if !untouched(p, before) {
			t.Fatalf("Hear has changed %x to %x", before, p)
		}
		spoil(p)
		m, wrong := want.Hear(before)
		if e != wrong || fmt.Sprint(l) != fmt.Sprint(m) || state(r) != state(want) {
			t.Fatalf("Hear(%x): %v, %d, want %v, %d; %s, want %s", before, l, e, m, wrong, state(r), state(want))
		}
	}
	text := behind([]byte("some text"))
	x := write(t, r, api.Event{Kind: api.Set, Key: "k", Text: text})
	if !untouched(text, []byte("some text")) {
		t.Errorf("Write has changed the text to %q", text)
	}
	spoil(text)
	if c, _ := r.Read("k"); string(x.Text) != "some text" || string(c.Text) != "some text" {
		t.Errorf("the text is %q, and was written as %q", c.Text, x.Text)
	}
}

// TestAnswers: what was returned may be appended to, and is independent of what is returned later.
func TestAnswers(t *testing.T) {
	r := having(t, 0, config, events())
	tell(t, r, row(1, 4, 2, 1), row(2, 3, 1))
	wantError(t, "the store's Truncate", r.Store().Truncate(4), api.OK)
	begin(t, r, 2)
	before := state(r)
	for range 3 {
		v, have, c := r.View(), r.Vector(), [2]api.Cell{}
		for i := range c {
			c[i], _ = r.Read("k")
		}
		if a, b := append(c[0].Text, 'a'), append(c[1].Text, 'b'); string(a) != "wa" || string(b) != "wb" {
			t.Errorf("two answers of Read share memory: %q, %q", a, b)
		}
		spoil(c[0].Text)
		_ = append(have, 77)
		clear(have)
		v.Fold().Apply(at(0, 3, 9, set("k", "spoilt")))
		p := begin(t, r, 2)
		spoil(p)
		l := hear(t, r, 1, letter.Letter{Kind: letter.Hello})
		for i := range l {
			for _, x := range l[i].Rows {
				clear(x.Have)
			}
			for _, e := range l[i].Events {
				spoil(e.Text)
			}
			clear(l[i].Have)
			clear(l[i].Rows)
			clear(l[i].Events)
			spoil(l[i].Bytes)
			l[i] = letter.Letter{Kind: 77}
		}
		if after := state(r); after != before {
			t.Fatalf("changes of answers have changed %s to %s", before, after)
		}
		wantView(t, "behind changes of answers", r, 3, events())
	}
}

// TestAnswersStay: a view and a vector that were returned do not change with the replica.
func TestAnswersStay(t *testing.T) {
	r := having(t, 0, config, events())
	v, have := r.View(), r.Vector()
	mark, bytes := v.Mark(), string(v.Fold().Encode())
	write(t, r, set("k", "later"), drop("n"))
	everywhere(t, r, 10, 1, 2)
	wantError(t, "Truncate", r.Truncate(), api.OK)
	c, _ := v.Cell("k")
	if v.Mark() != mark || string(v.Fold().Encode()) != bytes || v.Len() != 5 || !slices.Equal(have, []uint64{2, 2, 1}) || string(c.Text) != "w" {
		t.Error("an earlier view has changed")
	}
}

// TestReplicasAreIndependent: they share nothing.
func TestReplicasAreIndependent(t *testing.T) {
	a, b := having(t, 0, config, events()), having(t, 0, config, events())
	wantStable(t, "nothing told", b, 0)
	before := state(b)
	everywhere(t, a, 8, 1, 2)
	wantStable(t, "told", a, 8)
	write(t, a, drop("k"))
	begin(t, a, 1)
	wantError(t, "Truncate", a.Truncate(), api.OK)
	if state(b) != before || b.Stable() != 0 || decoded(t, begin(t, b, 1)).Serial != 1<<32+1 {
		t.Errorf("another replica is %s, before it %s", state(b), before)
	}
}

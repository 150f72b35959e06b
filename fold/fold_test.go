package fold_test

import (
	"fmt"
	"math"
	"math/rand"
	"slices"
	"strings"
	"testing"

	"anabranch/api"
	"anabranch/fold"
)

// The tests of P11.1.

func TestExample(t *testing.T) {
	p := begin(1)
	p.apply(t, 0, add("k", 1), add("k", 2))
	wantCell(t, p.f, "k", api.Cell{Kind: api.Put, Num: 3})
	wantState(t, "the example", p)
}

func TestNew(t *testing.T) {
	for _, c := range []struct{ nodes, members int }{
		{0, 0}, {1, 1}, {2, 2}, {63, 63}, {64, 64}, {65, 64}, {66, 64}, {1000, 64}, {math.MaxInt, 64}, {-1, 0}, {-64, 0}, {math.MinInt, 0},
	} {
		p := begin(c.nodes)
		wantState(t, fmt.Sprintf("New(%d)", c.nodes), p)
		if l := p.f.Members(); len(l) != c.members || c.members > 0 && l[c.members-1] != c.members-1 {
			t.Errorf("New(%d): Members() = %v", c.nodes, l)
		}
		if len(p.f.Keys()) != 0 || len(p.f.Have()) != 0 || p.f.Last() != (api.Spot{}) {
			t.Errorf("New(%d): %q, %v, %v", c.nodes, p.f.Keys(), p.f.Have(), p.f.Last())
		}
	}
}

// TestEachKindOnEachValue: a key has nothing, a text or a quantity, and then an event names it.
func TestEachKindOnEachValue(t *testing.T) {
	text := func(s string) api.Cell { return api.Cell{Kind: api.Set, Text: []byte(s)} }
	num := func(x float64) api.Cell { return api.Cell{Kind: api.Put, Num: x} }
	for _, before := range []struct {
		name string
		l    []api.Event
		kept api.Cell
		sum  api.Cell // behind an Add of 4
	}{
		{"nothing", nil, api.Cell{}, num(4)},
		{"dropped", []api.Event{put("k", 8), drop("k")}, api.Cell{}, num(4)},
		{"text", []api.Event{set("k", "old")}, text("old"), num(4)},
		{"empty text", []api.Event{set("k", "")}, text(""), num(4)},
		{"text behind a quantity", []api.Event{put("k", 8), set("k", "old")}, text("old"), num(4)},
		{"quantity", []api.Event{put("k", 8)}, num(8), num(12)},
		{"sum", []api.Event{add("k", 8), add("k", 0.5)}, num(8.5), num(12.5)},
		{"quantity behind a text", []api.Event{set("k", "old"), put("k", 8)}, num(8), num(12)},
		{"sum behind a text", []api.Event{set("k", "old"), add("k", 8)}, num(8), num(12)},
	} {
		for _, after := range []struct {
			e    api.Event
			want api.Cell
		}{
			{set("k", "new"), text("new")},
			{set("k", ""), text("")},
			{put("k", 2), num(2)},
			{put("k", 0), num(0)},
			{add("k", 4), before.sum},
			{drop("k"), api.Cell{}},
			{join(1), before.kept},
			{retire(), before.kept},
			{set("K", "other"), before.kept},
			{add("kk", 4), before.kept},
			{drop("other"), before.kept},
		} {
			p := begin(1)
			p.apply(t, 0, put("other", 7), set("another", "x"))
			p.apply(t, 0, before.l...)
			wantCell(t, p.f, "k", before.kept)
			p.apply(t, 0, after.e)
			wantCell(t, p.f, "k", after.want)
			wantCell(t, p.f, "another", api.Cell{Kind: api.Set, Text: []byte("x")})
			wantState(t, before.name, p)
		}
	}
}

// TestQuantities: what a key has behind two events, to the bit. Nothing is not 0: 0 and -0 are 0.
func TestQuantities(t *testing.T) {
	inf := math.Inf(1)
	for _, c := range []struct {
		l    []api.Event
		want float64
	}{
		{[]api.Event{put("k", negativeZero)}, negativeZero},
		{[]api.Event{add("k", negativeZero)}, negativeZero},
		{[]api.Event{add("k", 0)}, 0},
		{[]api.Event{put("k", 0), add("k", negativeZero)}, 0},
		{[]api.Event{put("k", negativeZero), add("k", 0)}, 0},
		{[]api.Event{put("k", negativeZero), add("k", negativeZero)}, negativeZero},
		{[]api.Event{add("k", negativeZero), add("k", negativeZero)}, negativeZero},
		{[]api.Event{set("k", "x"), add("k", negativeZero)}, negativeZero},
		{[]api.Event{put("k", 9), drop("k"), add("k", negativeZero)}, negativeZero},
		{[]api.Event{put("k", 1), add("k", -1)}, 0},
		{[]api.Event{add("k", 0.1), add("k", 0.2)}, 0.30000000000000004},
		{[]api.Event{add("k", 1e16), add("k", 1), add("k", 1)}, 1e16},
		{[]api.Event{add("k", 5e-324), add("k", 5e-324)}, 1e-323},
		{[]api.Event{add("k", math.MaxFloat64), add("k", math.MaxFloat64)}, inf},
		{[]api.Event{put("k", -math.MaxFloat64), add("k", -inf)}, -inf},
		{[]api.Event{add("k", inf)}, inf},
		{[]api.Event{add("k", -inf)}, -inf},
		{[]api.Event{add("k", inf), add("k", inf)}, inf},
		{[]api.Event{add("k", inf), add("k", 1)}, inf},
		{[]api.Event{add("k", inf), add("k", -inf)}, plainNaN},
		{[]api.Event{put("k", -inf), add("k", inf)}, plainNaN},
		{[]api.Event{put("k", -inf), add("k", inf), add("k", 1)}, plainNaN},
		{[]api.Event{put("k", -inf), add("k", inf), put("k", 1)}, 1},
		{[]api.Event{add("k", plainNaN)}, plainNaN},
		{[]api.Event{put("k", plainNaN)}, plainNaN},
		{[]api.Event{put("k", plainNaN), add("k", 1)}, plainNaN},
		{[]api.Event{put("k", 1), add("k", plainNaN)}, plainNaN},
		{[]api.Event{set("k", "x"), add("k", inf)}, inf},
	} {
		p := begin(1)
		p.apply(t, 0, c.l...)
		wantCell(t, p.f, "k", api.Cell{Kind: api.Put, Num: c.want})
		wantState(t, "quantities", p)
	}
}

// TestAllNaNsAreTheSame: a fold has the one NaN only, and its Mark does not depend on which one an event had.
func TestAllNaNsAreTheSame(t *testing.T) {
	want := begin(1)
	want.apply(t, 0, put("p", plainNaN), add("n", plainNaN), set("t", "x"), add("t", plainNaN), put("q", 1), add("q", plainNaN))
	for _, nan := range otherNaNs {
		p := begin(1)
		p.apply(t, 0, put("p", nan), add("n", nan), set("t", "x"), add("t", nan), put("q", 1), add("q", nan))
		for _, key := range p.f.Keys() {
			wantCell(t, p.f, key, api.Cell{Kind: api.Put, Num: plainNaN})
		}
		if p.f.Mark() != want.f.Mark() || string(p.f.Encode()) != string(want.f.Encode()) {
			t.Errorf("the NaN %x: %x, %q", math.Float64bits(nan), p.f.Mark(), p.f.Encode())
		}
		wantState(t, "NaN", p)
	}
}

// TestFieldsThatAKindDoesNotUse: they change nothing.
func TestFieldsThatAKindDoesNotUse(t *testing.T) {
	lean, full := begin(2), begin(2)
	for _, e := range []api.Event{set("a", "x"), put("b", 1), add("b", 2), set("c", "z"), drop("c"), join(9), retire(), drop("none")} {
		lean.apply(t, 1, e)
		if e.Kind != api.Set {
			e.Text = []byte("unused")
		}
		if e.Kind != api.Put && e.Kind != api.Add {
			e.Num = math.NaN()
		}
		if e.Kind == api.Join || e.Kind == api.Retire {
			e.Key = strings.Repeat("unused", 20)
		}
		if e.Kind != api.Join {
			e.Node = 7
		}
		full.apply(t, 1, e)
		if string(full.f.Encode()) != string(lean.f.Encode()) {
			t.Errorf("%s: %q, want %q", brief(e), full.f.Encode(), lean.f.Encode())
		}
		wantState(t, "fields that are not used", full)
	}
	if l := full.f.Keys(); !slices.Equal(l, []string{"a", "b"}) || full.f.Joined(7) || !full.f.Joined(9) {
		t.Errorf("%q", l)
	}
}

func TestJoinAndRetire(t *testing.T) {
	for _, c := range []struct {
		name                    string
		by                      []int // writers: -1 lets node 5 join, a node lets it retire
		joined, retired, member bool
	}{
		{"nothing", nil, false, false, false},
		{"joins", []int{-1}, true, false, true},
		{"joins twice", []int{-1, -1}, true, false, true},
		{"retires without having joined", []int{5}, false, true, false},
		{"retires twice", []int{5, 5}, false, true, false},
		{"joins and retires", []int{-1, 5}, true, true, false},
		{"joins, retires and joins", []int{-1, 5, -1}, true, true, false},
		{"joins and retires twice", []int{-1, 5, 5}, true, true, false},
		{"retires and joins", []int{5, -1}, true, true, false},
		{"another one retires", []int{-1, 4}, true, false, true},
	} {
		p := begin(1)
		for _, by := range c.by {
			if by < 0 {
				p.apply(t, 0, join(5))
			} else {
				p.apply(t, by, retire())
			}
		}
		if p.f.Joined(5) != c.joined || p.f.Retired(5) != c.retired || p.f.Member(5) != c.member {
			t.Errorf("%s: %v, %v, %v", c.name, p.f.Joined(5), p.f.Retired(5), p.f.Member(5))
		}
		wantState(t, c.name, p)
	}
}

func TestEveryNodeJoinsAndRetires(t *testing.T) {
	for n := range api.MaxNodes {
		for _, nodes := range []int{0, n, n + 1, 64} {
			p := begin(nodes)
			p.apply(t, (n+1)%64, join(n))
			wantState(t, "Join", p)
			p.apply(t, n, retire())
			wantState(t, "Retire", p)
		}
	}
}

// TestARetiredWriterGoesOn: a fold leaves it to others who may write.
func TestARetiredWriterGoesOn(t *testing.T) {
	p := begin(1)
	p.apply(t, 0, retire(), set("k", "x"), retire(), join(0))
	p.apply(t, 63, put("n", 1))
	wantState(t, "events of no members", p)
}

// refused are events that are not right, with what is wrong with them; all are the next one of writer 1 otherwise.
func refused(p *play) map[api.Errno][]api.Event {
	next := func(e api.Event) api.Event { return p.next(1, e) }
	l := map[api.Errno][]api.Event{}
	for _, n := range badNodes {
		e := next(set("k", "x"))
		e.Writer = n
		l[api.ErrArg] = append(l[api.ErrArg], e, next(join(n)))
	}
	for _, kind := range []byte{0, 7, 8, 128, 255} {
		e := next(set("k", "x"))
		e.Kind = kind
		l[api.ErrArg] = append(l[api.ErrArg], e)
	}
	for kind := byte(api.Set); kind <= api.Retire; kind++ {
		e := next(api.Event{Kind: kind, Key: "k"})
		l[api.ErrArg] = append(l[api.ErrArg], at(e, 1, 0, e.Time), at(e, 1, e.Seq, 0), at(e, 1, 0, 0), at(e, 0, 1, 0))
		l[api.ErrExhausted] = append(l[api.ErrExhausted], at(e, 1, api.End+1, e.Time), at(e, 1, e.Seq, api.End+1), at(e, 1, math.MaxUint64, math.MaxUint64))
	}
	for kind := byte(api.Set); kind <= api.Drop; kind++ {
		for _, key := range []string{"", longKey + "k", strings.Repeat("k", 1000)} {
			l[api.ErrLong] = append(l[api.ErrLong], next(api.Event{Kind: kind, Key: key}))
		}
	}
	l[api.ErrLong] = append(l[api.ErrLong], next(set("k", string(longText)+"t")))
	return l
}

// TestARefusedEventChangesNothing, whatever is wrong with it.
func TestARefusedEventChangesNothing(t *testing.T) {
	for _, p := range plays(t) {
		p.apply(t, 1, set("k", "kept"), put("n", 2))
		before := string(p.f.Encode())
		wantRefused := func(e api.Event, want api.Errno) {
			t.Helper()
			if got := p.try(t, e); got != want {
				t.Errorf("%s: %d, want %d", brief(e), got, want)
			}
			if string(p.f.Encode()) != before {
				t.Fatalf("%s has changed the fold", brief(e))
			}
		}
		for want, l := range refused(p) {
			for _, e := range l {
				wantRefused(e, want)
			}
		}
		last, seq := p.last().Time, p.have(1)
		for kind := byte(api.Set); kind <= api.Retire; kind++ {
			e := api.Event{Kind: kind, Key: "k", Text: []byte("x"), Num: 1, Node: 9}
			for _, time := range []uint64{1, last - 1, last} {
				wantRefused(at(e, 1, seq+1, time), api.ErrOld)
				wantRefused(at(e, 0, p.have(0)+1, time), api.ErrOld)
			}
			for _, s := range []uint64{1, seq - 1, seq, seq + 2, seq + 100, api.End} {
				wantRefused(at(e, 1, s, last+1), api.ErrGap)
				wantRefused(at(e, 1, s, api.End), api.ErrGap)
			}
			wantRefused(at(e, 50, p.have(50)+2, last+1), api.ErrGap)
		}
		wantState(t, "refused events", p)
		p.apply(t, 1, drop("k"))
		wantState(t, "an event behind refused ones", p)
	}
}

// TestTwoErrors: the chapter's order counts.
func TestTwoErrors(t *testing.T) {
	p := begin(2)
	p.apply(t, 1, set("k", "x"), set("k", "y"), set("k", "z"))
	for _, c := range []struct {
		e    api.Event
		want api.Errno
	}{
		{at(drop("k"), 1, 3, 3), api.ErrOld}, // the last one again
		{at(set("k", "z"), 1, 3, 3), api.ErrOld},
		{at(drop("k"), 1, 1, 1), api.ErrOld},
		{at(drop("k"), 1, 5, 3), api.ErrOld},
		{at(drop("k"), 0, 2, 3), api.ErrOld},
		{at(drop("k"), 0, 9, 1), api.ErrOld},
		{at(drop(""), 1, 3, 3), api.ErrLong},
		{at(drop(""), 1, 9, 9), api.ErrLong},
		{at(drop("k"), 1, 0, 3), api.ErrArg},
		{at(drop("k"), 1, 9, 0), api.ErrArg},
		{at(drop("k"), 64, 9, 1), api.ErrArg},
		{at(join(64), 1, 3, 3), api.ErrArg},
		{at(api.Event{Kind: 7}, 1, 9, 1), api.ErrArg},
		{at(drop("k"), 1, api.End+1, 1), api.ErrExhausted},
		{at(drop("k"), 1, 9, api.End+1), api.ErrExhausted},
		{at(drop(""), 1, api.End+1, api.End+1), api.ErrLong},
		{at(drop(""), -1, api.End+1, api.End+1), api.ErrArg},
	} {
		wantError(t, brief(c.e), p.f.Apply(c.e), c.want)
	}
	wantState(t, "two errors", p)
}

// TestPositions: by times, and then by writers.
func TestPositions(t *testing.T) {
	p := begin(4)
	e := set("k", "x")
	for _, c := range []struct {
		writer int
		time   uint64
		want   api.Errno
	}{
		{0, 0, api.ErrArg}, // the initial position, but no event has it
		{0, 1, api.OK},
		{0, 1, api.ErrOld},
		{2, 1, api.OK},
		{2, 1, api.ErrOld},
		{1, 1, api.ErrOld},
		{0, 1, api.ErrOld},
		{3, 1, api.OK},
		{3, 2, api.OK},
		{0, 2, api.ErrOld},
		{2, 2, api.ErrOld},
		{63, 2, api.OK},
		{63, 1, api.ErrOld},
		{0, 1000, api.OK},
		{63, 999, api.ErrOld},
		{1, 1000, api.OK},
		{0, api.End, api.OK},
		{0, api.End, api.ErrOld},
		{1, api.End - 1, api.ErrOld},
		{63, api.End, api.OK},
		{63, api.End, api.ErrOld},
		{2, api.End, api.ErrOld},
	} {
		if got := p.try(t, at(e, c.writer, p.have(c.writer)+1, c.time)); got != c.want {
			t.Errorf("writer %d at %d: %d, want %d", c.writer, c.time, got, c.want)
		}
		wantState(t, "positions", p)
	}
}

// TestFirstEvents: of any writer, at any time.
func TestFirstEvents(t *testing.T) {
	for _, w := range []int{0, 1, 62, 63} {
		for _, time := range []uint64{1, 2, 300, api.End} {
			for seq, want := range []api.Errno{api.ErrArg, api.OK, api.ErrGap, api.ErrGap} {
				p := begin(0)
				if got := p.try(t, at(drop("k"), w, uint64(seq), time)); got != want {
					t.Errorf("%d.%d at %d: %d, want %d", w, seq, time, got, want)
				}
				wantState(t, "the first event", p)
			}
		}
	}
}

func TestAtTheLimits(t *testing.T) {
	p := begin(64)
	p.apply(t, 63, set(longKey, string(longText)), put(longKey[1:], 1), add(longKey, 2), drop(longKey[1:]), set("t", string(longText)), join(63))
	wantState(t, "the limits", p)
	// Events up to the greatest number are too many, but there is an encoding that states them.
	x := parts{have: []uint64{0, api.End - 1, 5}, time: 9, writer: 1}
	f, e := fold.Decode([]byte(laid(x)))
	wantError(t, "Decode", e, api.OK)
	wantError(t, "a number that is too low", f.Apply(at(drop("k"), 1, api.End-1, 10)), api.ErrGap)
	wantError(t, "the greatest number", f.Apply(at(drop("k"), 1, api.End, 10)), api.OK)
	wantError(t, "the greatest number again", f.Apply(at(drop("k"), 1, api.End, 11)), api.ErrGap)
	wantError(t, "one more", f.Apply(at(drop("k"), 1, api.End+1, 11)), api.ErrExhausted)
	wantError(t, "the first number", f.Apply(at(drop("k"), 1, 1, 11)), api.ErrGap)
	wantError(t, "of another writer", f.Apply(at(drop("k"), 2, 6, 11)), api.OK)
	if v := f.Have(); !slices.Equal(v, []uint64{0, api.End, 6}) {
		t.Errorf("Have() = %v", v)
	}
}

// TestRandomEvents: right and wrong ones, in and out of order, against the model.
func TestRandomEvents(t *testing.T) {
	r := rand.New(rand.NewSource(111))
	count := map[api.Errno]int{}
	for range 200 {
		p := begin(r.Intn(66))
		for range 50 {
			e := randomEvent(r)
			e = p.next(e.Writer, e)
			switch r.Intn(12) {
			case 0:
				e.Time -= min(e.Time, uint64(r.Intn(4)))
			case 1:
				e.Seq = uint64(r.Intn(8))
			case 2:
				e.Time, e.Seq = uint64(r.Intn(8)), uint64(r.Intn(8))
			case 3:
				e.Time += uint64(r.Intn(1000))
			case 4:
				e.Time = max(1, e.Time-1) // of another writer, this one may be the next
			case 5:
				e.Writer, e.Node, e.Kind = r.Intn(66)-1, r.Intn(66)-1, byte(r.Intn(8))
			}
			count[p.try(t, e)]++
		}
		wantState(t, "random events", p)
	}
	for _, e := range []api.Errno{api.OK, api.ErrArg, api.ErrOld, api.ErrGap} {
		if count[e] < 100 {
			t.Errorf("the error %d only %d times", e, count[e])
		}
	}
}

// The tests of P1 and P2.

// TestNil is P1.
func TestNil(t *testing.T) {
	var f *fold.Fold
	for _, e := range []api.Event{{}, at(set("k", "x"), 0, 1, 1), at(retire(), 0, 2, 1), at(join(64), 0, 1, 1), at(drop(""), 0, api.End+1, 1)} {
		wantError(t, brief(e), f.Apply(e), api.ErrNone)
	}
	for _, key := range []string{"", "k", longKey + "k"} {
		wantCell(t, f, key, api.Cell{})
	}
	for _, n := range append(badNodes, 0, 1, 63) {
		if f.Member(n) || f.Joined(n) || f.Retired(n) {
			t.Errorf("node %d of no fold", n)
		}
	}
	if f.Keys() != nil || f.Members() != nil || f.Have() != nil || f.Last() != (api.Spot{}) || f.Mark() != 0 || f.Copy() != nil || f.Encode() != nil {
		t.Errorf("%q, %v, %v, %v, %x, %v, %q", f.Keys(), f.Members(), f.Have(), f.Last(), f.Mark(), f.Copy(), f.Encode())
	}
}

// TestFoldsAreApart is P2: what a fold tells does not depend on what was done with others.
func TestFoldsAreApart(t *testing.T) {
	a, b := begin(2), begin(3)
	a.apply(t, 0, set("k", "of a"), put("q", 1), join(9))
	wantState(t, "b", b)
	b.apply(t, 2, set("k", "of b"), retire(), add("q", 5))
	wantState(t, "a", a)
	wantState(t, "b", b)
	c := begin(2)
	wantState(t, "c", c)
	c.apply(t, 0, set("k", "of a"), put("q", 1), join(9))
	for range 2 {
		if string(c.f.Encode()) != string(a.f.Encode()) || c.f.Mark() != a.f.Mark() {
			t.Errorf("%q, %q", c.f.Encode(), a.f.Encode())
		}
	}
	wantState(t, "a", a)
}

// TestQuestionsChangeNothing is P2.
func TestQuestionsChangeNothing(t *testing.T) {
	for _, p := range plays(t) {
		for range 3 {
			wantState(t, "the same questions", p)
		}
		p.apply(t, 1, put("q", 1))
		wantState(t, "an event behind questions", p)
	}
}

package store_test

import (
	"fmt"
	"math"
	"strings"
	"testing"

	"anabranch/api"
	"anabranch/disk"
	"anabranch/store"
)

// sizes are sizes of segments: with one event, some, and all of them.
var sizes = []int{-1, 0, 60, 100, large}

// TestWrite: events of each kind, with what other kinds use.
func TestWrite(t *testing.T) {
	for _, size := range sizes {
		p := begin(t, 1, 2, size)
		for kind := api.Set; kind <= api.Retire; kind++ {
			p.writes(t, of(kind))
			p.check(t, fmt.Sprint("kind ", kind))
		}
		for kind := api.Set; kind <= api.Retire; kind++ {
			wantError(t, "Write of a node that has retired", p.write(t, of(kind)), api.ErrRetired)
		}
		p.check(t, "retired")
	}
}

// TestWriteNumbers: Seq is the Next of its feed, and Time one above Clock, wherever that comes from.
func TestWriteNumbers(t *testing.T) {
	p := begin(t, 0, 3, 60)
	p.writes(t, drop("k"), drop("k"))
	p.puts(t, at(2, 1, 2, drop("z")), at(1, 1, 9, drop("k")))
	x, _ := p.s.Write(drop("k"))
	p.m.write(drop("k"))
	if x.Writer != 0 || x.Seq != 3 || x.Time != 10 {
		t.Errorf("Write = %v", x)
	}
	p.puts(t, at(2, 2, 5, drop("z")))
	p.writes(t, drop("k"))
	p.check(t, "others' times")
	p.truncate(t, 11)
	p.writes(t, drop("k"))
	p.check(t, "all were folded")
	h := history{nodes: 3, l: p.m.all().l}
	h.sort()
	h.l = append(h.l, at(2, 3, 20, drop("k")))
	p.install(t, h, 50)
	p.check(t, "installed")
	p.writes(t, drop("k"))
	p.check(t, "after a fold's time")
	if x := p.m.rest[0]; x[0].Seq != 6 || x[0].Time != 51 {
		t.Errorf("Write = %v", x)
	}
}

// TestWriteOfNoMember: ErrMember, whatever the event is; a Join of the node by another one makes it a member.
func TestWriteOfNoMember(t *testing.T) {
	p := begin(t, 5, 5, 60)
	for kind := range byte(9) {
		wantError(t, "Write of a node that has not joined", p.write(t, of(kind)), api.ErrMember)
	}
	wantError(t, "Write of its own Join", p.write(t, join(5)), api.ErrMember)
	wantError(t, "Write of a bad event", p.write(t, api.Event{}), api.ErrMember)
	p.check(t, "no member")
	p.puts(t, at(1, 1, 3, join(5)))
	p.check(t, "joined")
	wantError(t, "Write", p.write(t, set("k", "hi")), api.OK)
	wantError(t, "Write of its own Join", p.write(t, join(5)), api.ErrOld)
	wantError(t, "Write", p.write(t, retire()), api.OK)
	wantError(t, "Write of a bad event", p.write(t, api.Event{}), api.ErrRetired)
	p.check(t, "retired")
	p.truncate(t, 5)
	p.check(t, "retired in the fold")
	wantError(t, "Write", p.write(t, set("k", "hi")), api.ErrRetired)
}

// TestWriteOfWhatIsNotRight: the errors of event.Right, and nothing has changed; at the limits there are none.
func TestWriteOfWhatIsNotRight(t *testing.T) {
	p := begin(t, 0, 2, 60)
	key := strings.Repeat("k", api.MaxKey)
	bad := []api.Event{{}, of(0), of(7), of(255), join(-1), join(64), join(math.MaxInt), join(math.MinInt), set("", ""), set(key+"k", ""),
		set("k", strings.Repeat("t", api.MaxText+1)), drop(""), add("", 1), add(key+"k", 1), {Kind: api.Put}, {Kind: api.Put, Key: key + "k"}}
	check := func(what string) {
		for _, e := range bad {
			if p.write(t, e) == api.OK {
				t.Errorf("%s: Write(%.99q): no error", what, fmt.Sprint(e))
			}
		}
		p.check(t, what)
	}
	check("empty")
	p.writes(t, set(key, "t"), drop(key), join(63), set("k", strings.Repeat("t", api.MaxText)), add(key, math.Inf(1)))
	check("with events")
}

// TestWriteJoins: ErrOld for a node that has joined: from the beginning, by an event or by the fold, or retired since.
func TestWriteJoins(t *testing.T) {
	p := begin(t, 0, 3, 60)
	p.puts(t, at(2, 1, 1, join(7)), at(2, 2, 2, retire()))
	p.writes(t, join(9))
	check := func(what string) {
		for n := range 64 {
			joined := n < 3 || n == 7 || n == 9
			if p.m.all().joined(n) != joined {
				t.Fatal("the model is wrong")
			}
			if joined {
				wantError(t, fmt.Sprintf("%s: Join of %d", what, n), p.write(t, join(n)), api.ErrOld)
			}
		}
		p.check(t, what)
	}
	check("by events")
	p.truncate(t, 3)
	check("by the fold")
	for n := range 64 {
		p.write(t, join(n))
	}
	p.check(t, "all")
	wantError(t, "a Join of no node", p.write(t, join(64)), api.ErrArg)
}

// TestWriteAtTheEnd: a Time above End is ErrExhausted, and so is a Seq; nothing has changed.
func TestWriteAtTheEnd(t *testing.T) {
	p := begin(t, 0, 2, 60)
	p.puts(t, at(1, 1, api.End-2, drop("k")))
	p.writes(t, drop("k"), drop("k"))
	for kind := api.Set; kind <= api.Retire; kind++ {
		wantError(t, "Write", p.write(t, of(kind)), api.ErrExhausted)
	}
	wantError(t, "Write of a Join", p.write(t, join(1)), api.ErrExhausted)
	wantError(t, "Write of no kind", p.write(t, of(0)), api.ErrArg)
	wantError(t, "Write without a key", p.write(t, drop("")), api.ErrLong)
	p.check(t, "Clock is End")
	wantError(t, "Truncate", p.truncate(t, api.End), api.OK)
	p.check(t, "Time is End")
	wantError(t, "Write", p.write(t, drop("k")), api.ErrExhausted)

	last := encodedAt([]uint64{api.End - 1, api.End}, api.Spot{Time: 5}, 3, 0)
	d := disk.New(wide)
	s, _ := store.Open(d, 0, 2, 60)
	wantError(t, "Install", s.Install([]byte(last), 5), api.OK)
	for i, want := range []api.Errno{api.OK, api.ErrExhausted, api.ErrExhausted} {
		x, e := s.Write(drop("k"))
		wantError(t, "Write", e, want)
		if want == api.OK && (x.Seq != api.End || x.Time != 6) || want != api.OK && !same(x, api.Event{}) {
			t.Errorf("Write %d = %v", i, x)
		}
		s, _ = store.Open(d, 0, 2, 60)
	}
	if n, e := s.Put(nil, []api.Event{at(1, api.End+1, 9, drop("k"))}); n != 0 || e != api.ErrExhausted {
		t.Errorf("Put = %d, %d", n, e)
	}
}

// TestPut: lists that are new in all, in part and not at all.
func TestPut(t *testing.T) {
	for _, size := range sizes {
		p := begin(t, 0, 3, size)
		l := []api.Event{at(1, 1, 2, of(api.Set)), at(2, 1, 2, of(api.Put)), at(1, 2, 3, of(api.Add)), at(1, 3, 4, of(api.Drop)), at(2, 2, 9, of(api.Join)),
			at(0, 1, 10, of(api.Add)), at(0, 2, 11, of(api.Set)), at(1, 4, 11, of(api.Retire)), at(5, 1, 12, of(api.Set))}
		for _, cut := range [][3]int{{0, 0, 0}, {0, 1, 1}, {0, 1, 0}, {0, 3, 2}, {1, 3, 0}, {2, 5, 2}, {0, 5, 0}, {0, 9, 4}, {0, 9, 0}, {4, 9, 0}} {
			n, e := p.put(t, nil, l[cut[0]:cut[1]]...)
			if n != cut[2] || e != api.OK {
				t.Errorf("Put(%v) = %d, %d", cut, n, e)
			}
			p.check(t, fmt.Sprint("Put ", cut))
		}
		if x, e := p.s.Write(drop("k")); e != api.OK || x.Seq != 3 || x.Time != 13 {
			t.Errorf("Write = %v, %d", x, e)
		}
	}
}

// TestPutBase: ErrGap, if base is not Within Have, folded events included, with and without events.
func TestPutBase(t *testing.T) {
	p := begin(t, 0, 3, 60)
	p.puts(t, at(1, 1, 2, drop("k")), at(2, 1, 2, drop("k")), at(1, 2, 3, drop("k")))
	far := make([]uint64, 70)
	far[69] = 1
	end := make([]uint64, 64)
	end[63] = math.MaxUint64
	check := func(what string) {
		for _, base := range [][]uint64{{1}, {0, 3}, {0, 2, 2}, {1, 2, 1}, {0, 2, 1, 1}, far, end, {0, math.MaxUint64}} {
			for _, l := range [][]api.Event{nil, {at(1, 1, 2, drop("k"))}, {at(1, 3, 9, drop("k"))}, {{}}} {
				n, e := p.put(t, base, l...)
				if n != 0 || e != api.ErrGap {
					t.Errorf("%s: Put(%v) = %d, %d", what, base, n, e)
				}
			}
		}
		for _, base := range [][]uint64{nil, {}, {0}, {0, 2, 1}, {0, 1}, {0, 0, 1}, {0, 2, 1, 0, 0}, make([]uint64, 70)} {
			if n, e := p.put(t, base); n != 0 || e != api.OK {
				t.Errorf("%s: Put(%v) = %d, %d", what, base, n, e)
			}
		}
		p.check(t, what)
	}
	check("events")
	p.truncate(t, 2)
	check("some are folded")
	p.truncate(t, 3)
	check("all are folded")
	if n, e := p.put(t, []uint64{0, 2, 1}, at(1, 3, 9, drop("k"))); n != 1 || e != api.OK {
		t.Errorf("Put = %d, %d", n, e)
	}
}

// TestPutOrder: ErrArg, if the list is not in order, even if the store has its events; also if it lacks the base, as no
// order of these errors is said.
func TestPutOrder(t *testing.T) {
	p := begin(t, 0, 3, 60)
	a, b, c := at(1, 1, 2, drop("k")), at(2, 1, 2, drop("k")), at(1, 2, 3, drop("k"))
	check := func(what string) {
		for _, l := range [][]api.Event{{b, a}, {c, a}, {c, b}, {a, c, b}, {b, c, a}, {c, b, a}, {a, b, a}, {{}, {Writer: -1}}} {
			for _, base := range [][]uint64{nil, {7}} {
				n, e := p.put(t, base, l...)
				if n != 0 || e != api.ErrArg {
					t.Errorf("%s: Put(%v) = %d, %d", what, l, n, e)
				}
			}
		}
		p.check(t, what)
	}
	check("none is there")
	p.puts(t, a, b, c)
	check("all are there")
	if n, e := p.put(t, nil, a, a, b, b, c, c); n != 0 || e != api.OK {
		t.Errorf("Put = %d, %d", n, e)
	}
}

// TestPutTwice: an event that is twice in a list is new once.
func TestPutTwice(t *testing.T) {
	p := begin(t, 0, 3, 60)
	a, b := at(1, 1, 2, drop("k")), at(1, 2, 3, drop("k"))
	if n, e := p.put(t, nil, a, a, b, b); n != 2 || e != api.OK {
		t.Errorf("Put = %d, %d", n, e)
	}
	p.check(t, "twice")
}

// TestPutErrors: with each error, the events before it are taken and counted, durably, and none behind it.
func TestPutErrors(t *testing.T) {
	key := strings.Repeat("k", api.MaxKey+1)
	bad := []struct {
		e    api.Event
		want api.Errno
	}{
		{at(3, 1, 9, drop("k")), api.ErrMember},
		{at(63, 1, 9, drop("k")), api.ErrMember},
		{at(63, 0, 9, drop("k")), api.ErrArg},
		{at(2, 0, 9, drop("k")), api.ErrArg},
		{at(1, 0, 9, drop("k")), api.ErrArg},
		{at(64, 1, 9, drop("k")), api.ErrArg},
		{at(-1, 1, 9, drop("k")), api.ErrArg},
		{at(math.MaxInt, 1, 9, drop("k")), api.ErrArg},
		{at(1, 2, 9, of(7)), api.ErrArg},
		{at(1, 2, 9, of(0)), api.ErrArg},
		{at(1, 2, 9, join(64)), api.ErrArg},
		{at(3, 1, 9, drop("")), api.ErrLong},
		{at(1, 2, 9, drop(key)), api.ErrLong},
		{at(1, 2, 9, set("k", strings.Repeat("t", api.MaxText+1))), api.ErrLong},
		{at(3, api.End+1, 9, drop("k")), api.ErrExhausted},
		{at(1, 2, api.End+1, drop("k")), api.ErrExhausted},
		{at(1, math.MaxUint64, 9, drop("k")), api.ErrExhausted},
		{at(1, 3, 9, drop("k")), api.ErrGap},
		{at(1, api.End, 9, drop("k")), api.ErrGap},
		{at(0, 3, 9, drop("k")), api.ErrGap},
		{at(4, 2, 9, drop("k")), api.ErrRetired},
		{at(4, 9, 9, drop("k")), api.ErrRetired},
		{at(4, 3, 9, api.Event{}), api.ErrArg},
		{at(2, 1, 7, drop("k")), api.OK},
		{at(1, 2, 8, drop("k")), api.ErrOld}, // as the event before it has the Time 8
	}
	for _, size := range sizes {
		for _, fold := range []uint64{0, 5} {
			for _, c := range bad {
				p := begin(t, 0, 3, size)
				p.puts(t, at(1, 1, 4, join(4)), at(4, 1, 5, retire()))
				p.truncate(t, fold)
				l := []api.Event{at(1, 1, 4, join(4)), at(0, 1, 6, drop("k")), at(2, 1, 7, drop("k")), c.e, at(1, 2, 1<<62, drop("k")), at(2, 2, 1<<62, drop("k"))}
				want := 2
				switch {
				case c.e.Time > 1<<62:
					l = l[:4]
				case c.want == api.ErrOld:
					l, want = []api.Event{at(0, 1, 6, drop("k")), at(1, 2, 8, drop("k")), at(1, 3, 8, drop("k")), at(2, 1, 9, drop("k"))}, 2
				case c.want == api.OK:
					want = 4
				}
				n, e := p.put(t, []uint64{0, 1}, l...)
				if n != want || e != c.want {
					t.Errorf("Put(.., %v) = %d, %d, want %d, %d", c.e, n, e, want, c.want)
				}
				p.d.Crash(-1)
				p.open(t)
				p.check(t, fmt.Sprint("Put with an error ", c.want))
			}
		}
	}
}

// TestPutOfWhatIsThere: what the store has, by writer and number, is not examined, whether or not it is folded.
func TestPutOfWhatIsThere(t *testing.T) {
	p := begin(t, 0, 3, 60)
	p.puts(t, at(1, 1, 2, join(4)), at(4, 1, 3, retire()), at(1, 2, 4, retire()))
	for _, time := range []uint64{0, 3, 4} {
		p.truncate(t, time)
		n, e := p.put(t, []uint64{0, 2}, at(4, 1, 1, of(7)), at(1, 1, 2, join(4)), at(1, 1, 3, drop("")), at(4, 1, 3, retire()), at(1, 2, math.MaxUint64, api.Event{}))
		if n != 0 || e != api.OK {
			t.Errorf("Put = %d, %d", n, e)
		}
		p.check(t, fmt.Sprint("up to ", time))
	}
}

// TestPutBehindTheFold: ErrOld, if a Time is not above that of the fold, whether its writer has events or not.
func TestPutBehindTheFold(t *testing.T) {
	p := begin(t, 0, 3, 60)
	p.writes(t, drop("k"), drop("k"), drop("k"), drop("k"))
	p.puts(t, at(1, 1, 2, drop("k")))
	p.truncate(t, 3)
	for _, e := range []api.Event{at(1, 2, 2, drop("k")), at(1, 2, 3, drop("k")), at(2, 1, 1, drop("k")), at(2, 1, 3, drop("k"))} {
		if n, err := p.put(t, nil, e); n != 0 || err != api.ErrOld {
			t.Errorf("Put(%v) = %d, %d", e, n, err)
		}
		p.check(t, "behind the fold")
	}
	p.puts(t, at(1, 2, 4, drop("k")), at(2, 1, 4, drop("k")))
	p.check(t, "ahead of it")
}

// TestPutJoins: the events of a writer may follow its Join in the same list, but not its Retire.
func TestPutJoins(t *testing.T) {
	p := begin(t, 9, 1, 60)
	l := []api.Event{at(0, 1, 1, join(9)), at(0, 2, 2, join(8)), at(8, 1, 3, join(7)), at(9, 1, 3, join(7)), at(7, 1, 4, drop("k")), at(8, 2, 4, retire())}
	if n, e := p.put(t, nil, append(l, at(7, 2, 5, drop("k")), at(8, 3, 5, drop("k")), at(9, 2, 6, drop("k")))...); n != 7 || e != api.ErrRetired {
		t.Errorf("Put = %d, %d", n, e)
	}
	p.check(t, "joined")
	wantError(t, "Write", p.write(t, drop("k")), api.OK)
	if n, e := p.put(t, nil, at(6, 1, 3, drop("k")), at(0, 3, 7, join(6))); n != 0 || e != api.ErrMember {
		t.Errorf("Put = %d, %d", n, e)
	}
	p.check(t, "before a Join")
	p.puts(t, at(0, 3, 7, join(6)), at(6, 1, 8, drop("k")))
	p.check(t, "after a Join")
}

// TestClock: it is the maximum of all Times, even if files have events whose Times do not increase.
func TestClock(t *testing.T) {
	l := []api.Event{at(1, 1, 9, drop("k")), at(1, 2, 5, drop("k"))}
	d := with(t, map[string]string{nameOf(1, 1): file(1, 1, l...)})
	s, e := store.Open(d, 0, 2, 60)
	wantError(t, "Open", e, api.OK)
	if s.Clock() != 9 {
		t.Errorf("Clock() = %d", s.Clock())
	}
	if x, e := s.Write(drop("k")); e != api.OK || x.Time != 10 {
		t.Errorf("Write = %v, %d", x, e)
	}
}

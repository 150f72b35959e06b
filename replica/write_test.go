package replica_test

import (
	"fmt"
	"math"
	"slices"
	"strings"
	"testing"

	"anabranch/api"
	"anabranch/disk"
	"anabranch/event"
	"anabranch/replica"
)

// The tests of P18.1 for Write, Read, View and Vector.

// wantRow checks what the matrix of a replica has of itself.
func wantRow(t *testing.T, what string, r *replica.Replica, want api.Row) {
	t.Helper()
	if got := r.Matrix().Row(want.Node); !sameRow(got, want) {
		t.Fatalf("%s: the row is %v, want %v", what, got, want)
	}
}

// TestWrite: each kind of event, and what the matrix has behind it.
func TestWrite(t *testing.T) {
	for _, node := range []int{0, 2, 63} {
		c := config
		c.Nodes = 64
		r := open(t, node, c)
		tell(t, r, row(1, 3, 2))
		var l []api.Event
		for i, e := range []api.Event{set("k", "v"), put("x", 0.5), add("x", 2), add("k", math.NaN()), drop("none"), set("dropped", ""), drop("dropped"), retire()} {
			n := uint64(i + 1)
			given := e
			given.Writer, given.Seq, given.Time = 77, 88, 99
			x := write(t, r, given)
			l = append(l, at(node, n, n, event.Plain(e)))
			if !sameEvent(x, l[i]) {
				t.Fatalf("Write(%v) = %v, want %v", given, x, l[i])
			}
			own := make([]uint64, node+1)
			own[node] = n
			wantRow(t, "behind a Write", r, row(node, n, own...))
			if rows := r.Matrix().Rows(); len(rows) != 2 {
				t.Fatalf("the rows are %v", rows)
			}
			wantRow(t, "behind a Write", r, row(1, 3, 2))
			wantView(t, "behind a Write", r, 64, l)
		}
	}
}

// TestWriteBehindOthers: the time is one above the clock, and the row has the events of others, too.
func TestWriteBehindOthers(t *testing.T) {
	r := open(t, 1, config)
	get(t, r, at(0, 1, 3, set("k", "v")), at(2, 1, 8, drop("k")))
	if x := write(t, r, join(9)); !sameEvent(x, at(1, 1, 9, join(9))) {
		t.Errorf("Write = %v", x)
	}
	wantRow(t, "behind a Write", r, row(1, 9, 1, 1, 1))
	r = open(t, 1, config)
	install(t, r, foldOf(t, 3, []api.Event{at(0, 1, 3, set("k", "v"))}), 20)
	if x := write(t, r, join(9)); !sameEvent(x, at(1, 1, 21, join(9))) {
		t.Errorf("Write = %v", x)
	}
	wantRow(t, "behind a fold", r, row(1, 21, 1, 1))
}

// TestWriteErrors: those of the store, and nothing is changed, also not what the matrix knows.
func TestWriteErrors(t *testing.T) {
	long := strings.Repeat("k", api.MaxKey+1)
	none := func(*testing.T, *replica.Replica) {}
	for _, c := range []struct {
		what   string
		node   int
		before func(t *testing.T, r *replica.Replica)
		e      api.Event
		want   api.Errno
	}{
		{"no kind", 0, none, api.Event{Key: "k"}, api.ErrArg},
		{"no kind", 0, none, api.Event{Kind: api.Retire + 1}, api.ErrArg},
		{"no node", 0, none, join(64), api.ErrArg},
		{"no node", 0, none, join(-1), api.ErrArg},
		{"no key", 0, none, set("", "v"), api.ErrLong},
		{"a long key", 0, none, put(long, 1), api.ErrLong},
		{"a long text", 0, none, api.Event{Kind: api.Set, Key: "k", Text: make([]byte, api.MaxText+1)}, api.ErrLong},
		{"no member", 3, none, set("k", "v"), api.ErrMember},
		{"no member, and no kind", 3, none, api.Event{}, api.ErrMember},
		{"retired", 0, func(t *testing.T, r *replica.Replica) { write(t, r, retire()) }, set("k", "v"), api.ErrRetired},
		{"retired, and folded", 0, func(t *testing.T, r *replica.Replica) {
			install(t, r, foldOf(t, 3, []api.Event{at(0, 1, 3, retire())}), 3)
		}, set("k", "v"), api.ErrRetired},
		{"a member joins", 0, none, join(2), api.ErrOld},
		{"itself joins", 0, none, join(0), api.ErrOld},
		{"who has joined joins", 0, func(t *testing.T, r *replica.Replica) { get(t, r, at(1, 1, 1, join(9))) }, join(9), api.ErrOld},
		{"who has retired joins", 0, func(t *testing.T, r *replica.Replica) { get(t, r, at(1, 1, 1, retire())) }, join(1), api.ErrOld},
		{"no further time", 0, func(t *testing.T, r *replica.Replica) { get(t, r, at(1, 1, api.End, drop("k"))) }, drop("k"), api.ErrExhausted},
		{"no further number", 0, func(t *testing.T, r *replica.Replica) {
			p := foldOf(t, 3, nil).Encode()
			p = append([]byte{1, 0xff, 0xff, 0xff, 0xff, 0xff, 0xff, 0xff, 0xff, 0x7f}, p[1:]...) // it has End events of writer 0
			wantError(t, "Install", r.Store().Install(p, 5), api.OK)
		}, drop("k"), api.ErrExhausted},
	} {
		r := open(t, c.node, config)
		c.before(t, r)
		for range 2 {
			before := state(r)
			if x, e := r.Write(c.e); e != c.want || !sameEvent(x, api.Event{}) {
				t.Errorf("%s: Write = %v, %d, want %d", c.what, x, e, c.want)
			}
			if after := state(r); after != before {
				t.Errorf("%s: %s, before it %s", c.what, after, before)
			}
		}
	}
}

// TestWriteWithoutRoom: ErrFull until there is enough room; nothing is noted before it.
func TestWriteWithoutRoom(t *testing.T) {
	c := config
	c.Segment = 1
	for _, l := range [][]api.Event{nil, {set("k", "v")}} {
		d := disk.New(wide)
		r := openOn(t, d, 0, c, 1)
		write(t, r, l...)
		get(t, r, at(1, 1, 9, drop("k"))) // of which the matrix knows only behind the Ack
		_, used := d.Room()
		before := state(r)
		room := used
		for ; ; room++ {
			d.Widen(room)
			x, e := r.Write(set("key", "text"))
			if e == api.OK {
				break
			}
			if e != api.ErrFull || !sameEvent(x, api.Event{}) || state(r) != before {
				t.Fatalf("room %d of %d: Write = %v, %d, and it is %s, before it %s", room, used, x, e, state(r), before)
			}
		}
		if _, used := d.Room(); used != room || room > used+100 {
			t.Errorf("it took a room of %d for %d", room, used)
		}
		wantRow(t, "behind a Write", r, row(0, 10, uint64(len(l)+1), 1))
	}
}

// TestNothingIsNotedWithAnError: what the store has got in another way stays unknown to the matrix.
func TestNothingIsNotedWithAnError(t *testing.T) {
	r := open(t, 0, config)
	_, e := r.Store().Write(set("k", "v"))
	wantError(t, "the store's Write", e, api.OK)
	_, e = r.Write(join(1))
	wantError(t, "Write", e, api.ErrOld)
	wantRow(t, "behind a Write with an error", r, row(0, 0))
	write(t, r, join(9))
	wantRow(t, "behind a Write", r, row(0, 2, 2))
}

// TestWriteStops: ErrStop at each operation of the disk; what is there afterwards is what was there, or the event, too.
func TestWriteStops(t *testing.T) {
	there := 0
	for stop := 0; ; stop++ {
		ended := false
		for torn := range 40 {
			d := disk.New(wide)
			r := openOn(t, d, 0, config, 1)
			write(t, r, set("k", "v"))
			d.Arm(stop, torn)
			_, e := r.Write(set("k", "w"))
			if ended = e == api.OK; ended {
				break
			}
			wantError(t, "Write", e, api.ErrStop)
			d.Crash(torn)
			l := []api.Event{at(0, 1, 1, set("k", "v"))}
			r = openOn(t, d, 0, config, 2)
			if r.Vector().Get(0) == 2 {
				there++
				l = append(l, at(0, 2, 2, set("k", "w")))
			}
			wantView(t, fmt.Sprintf("stopped at %d", stop), r, 3, l)
		}
		if ended {
			break
		}
	}
	if there == 0 {
		t.Error("the event was never there")
	}
}

// history is what the following tests let a replica of node 0 have: its own events, and others.
func history() []api.Event {
	return []api.Event{
		at(0, 1, 1, set("k", "v")), at(1, 1, 1, set("dropped", "v")), at(0, 2, 2, add("n", 1)), at(1, 2, 2, put("x", math.Inf(-1))),
		at(2, 1, 2, join(7)), at(0, 3, 3, drop("dropped")), at(7, 1, 4, add("n", 2)), at(1, 3, 5, add("k", 7)), at(7, 2, 5, set("long", strings.Repeat("t", 500))),
		at(1, 4, 6, retire()), at(0, 4, 7, set("k", "")), at(2, 2, 7, drop("never")),
	}
}

// TestRead: a key that is there, that was dropped, and that never was, with whatever is folded.
func TestRead(t *testing.T) {
	for time := range uint64(8) {
		r := open(t, 0, config)
		get(t, r, history()...)
		wantError(t, "Truncate", r.Store().Truncate(time), api.OK)
		wantView(t, fmt.Sprintf("folded up to %d", time), r, 3, history())
		for _, c := range []struct {
			key  string
			want api.Cell
			ok   bool
		}{
			{"k", api.Cell{Kind: api.Set}, true}, {"n", api.Cell{Kind: api.Put, Num: 3}, true}, {"x", api.Cell{Kind: api.Put, Num: math.Inf(-1)}, true},
			{"long", api.Cell{Kind: api.Set, Text: []byte(strings.Repeat("t", 500))}, true}, {"dropped", api.Cell{}, false}, {"never", api.Cell{}, false},
			{"", api.Cell{}, false}, {"K", api.Cell{}, false}, {"k\x00", api.Cell{}, false}, {strings.Repeat("k", 1000), api.Cell{}, false},
		} {
			if got, ok := r.Read(c.key); ok != c.ok || !sameCell(got, c.want) {
				t.Errorf("folded up to %d: Read(%q) = %v, %v, want %v, %v", time, c.key, got, ok, c.want, c.ok)
			}
		}
	}
}

// TestViewAndVector: behind each event that was written or heard, and behind each fold.
func TestViewAndVector(t *testing.T) {
	r := open(t, 0, config)
	for i, e := range history() {
		if e.Writer == 0 {
			r.Store().Put(nil, []api.Event{e}) // as the times are those of the history
		} else {
			get(t, r, e)
		}
		wantView(t, fmt.Sprint("behind event ", i), r, 3, history()[:i+1])
		if n := r.View().Len(); i%4 == 3 {
			wantError(t, "Truncate", r.Store().Truncate(e.Time-1), api.OK)
			wantView(t, fmt.Sprint("folded behind event ", i), r, 3, history()[:i+1])
			if r.View().Len() >= n || r.View().Len() == 0 {
				t.Errorf("behind event %d and a fold, %d of %d events are told", i, r.View().Len(), n)
			}
		}
	}
	if !slices.Equal(r.Vector(), []uint64{4, 4, 2, 0, 0, 0, 0, 2}) || !slices.Equal(r.View().Members(), []int{0, 2, 7}) {
		t.Errorf("it has %v, of the members %v", r.Vector(), r.View().Members())
	}
}

// TestViewOfAFold: what was installed is there.
func TestViewOfAFold(t *testing.T) {
	l := history()
	for folded := 1; folded <= len(l); folded++ {
		if folded < len(l) && l[folded].Time == l[folded-1].Time {
			continue
		}
		r := open(t, 9, config)
		install(t, r, foldOf(t, 3, l[:folded]), l[folded-1].Time)
		wantView(t, fmt.Sprint("installed ", folded), r, 3, l[:folded])
		if r.View().Len() != 0 || r.Store().Time() != l[folded-1].Time {
			t.Errorf("%d events are told, %d is folded", r.View().Len(), r.Store().Time())
		}
		r.Store().Put(nil, l)
		wantView(t, fmt.Sprint("and the rest behind ", folded), r, 3, l)
	}
}

// TestStoreAndMatrix: they are the replica's own.
func TestStoreAndMatrix(t *testing.T) {
	r := open(t, 2, config)
	if r.Store() == nil || r.Store() != r.Store() || r.Matrix() == nil || r.Matrix() != r.Matrix() || r.Store().Node() != 2 {
		t.Fatal("there is no store, no matrix, or more than one")
	}
	_, e := r.Store().Write(set("k", "v"))
	wantError(t, "the store's Write", e, api.OK)
	r.Matrix().Raise(row(0, 1, 0, 0, 1))
	r.Matrix().Raise(row(1, 1, 0, 0, 1))
	wantView(t, "behind the store's Write", r, 3, []api.Event{at(2, 1, 1, set("k", "v"))})
	wantStable(t, "behind the matrix's Raise", r, 1)
}

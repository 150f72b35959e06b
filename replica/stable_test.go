package replica_test

import (
	"fmt"
	"math"
	"slices"
	"testing"

	"anabranch/api"
	"anabranch/disk"
	"anabranch/replica"
)

// The tests of P18.2 for Stable and Truncate.

// events are those that the replicas of the following tests have. Their clock is 8.
func events() []api.Event {
	return []api.Event{at(0, 1, 1, set("k", "v")), at(1, 1, 3, drop("k")), at(0, 2, 5, add("n", 1)), at(2, 1, 6, add("n", 2)), at(1, 2, 8, set("k", "w"))}
}

// having returns a replica with events, which knows nothing yet.
func having(t *testing.T, node int, c api.Config, l []api.Event) *replica.Replica {
	t.Helper()
	return havingOn(t, disk.New(wide), node, c, l)
}

func havingOn(t *testing.T, d *disk.Disk, node int, c api.Config, l []api.Event) *replica.Replica {
	t.Helper()
	r := openOn(t, d, node, c, 1)
	if n, e := r.Store().Put(nil, l); n != len(l) || e != api.OK {
		t.Fatalf("Put: %d of %d events, %d", n, len(l), e)
	}
	return r
}

// TestStable: what is told of three members, of which the replica is the first one, and what follows from it.
func TestStable(t *testing.T) {
	for _, c := range []struct {
		rows []api.Row
		want uint64
	}{
		{nil, 0},
		{[]api.Row{row(1, 8, 2, 2, 1)}, 0},
		{[]api.Row{row(2, 9, 2, 2, 1)}, 0},
		{[]api.Row{row(0, 99, 2, 2, 1)}, 0},
		{[]api.Row{row(1, 8, 2, 2, 1), row(2, 8, 2, 2, 1)}, 8},
		{[]api.Row{row(1, 20, 2, 2, 1), row(2, 30, 2, 2, 1)}, 8}, // as the replica writes behind its clock
		{[]api.Row{row(1, 20, 2, 2, 1), row(2, 30, 2, 2, 1), row(0, 25, 2, 2, 1)}, 20},
		{[]api.Row{row(1, 7, 2, 2, 1), row(2, 30, 2, 2, 1)}, 7},
		{[]api.Row{row(1, 7, 2, 2, 1), row(2, 6, 2, 2, 1)}, 6},
		{[]api.Row{row(1, 1, 2, 2, 1), row(2, 6, 2, 2, 1)}, 1},
		{[]api.Row{row(1, 0, 2, 2, 1), row(2, 6, 2, 2, 1)}, 0},
		{[]api.Row{row(1, 8, 2, 2), row(2, 9, 2, 2, 1)}, 5},
		{[]api.Row{row(1, 8, 1, 2, 1), row(2, 9, 2, 2, 1)}, 4},
		{[]api.Row{row(1, 8, 2, 0, 1), row(2, 9, 2, 2, 1)}, 2},
		{[]api.Row{row(1, 8, 0, 2, 1), row(2, 9, 2, 2, 1)}, 0},
		{[]api.Row{row(1, 8, 2, 2, 1), row(2, 9, 2, 1, 1)}, 7},
		{[]api.Row{row(1, 8, 2, 3, 1), row(2, 9, 2, 2, 1)}, 0},
		{[]api.Row{row(1, 8, 2, 2, 1), row(2, 9, 2, 2, 2)}, 0},
		{[]api.Row{row(1, 8, 2, 2, 2), row(2, 9, 2, 3, 1)}, 8}, // of each other they have more, but that may come late
		{[]api.Row{row(1, 8, 3, 2, 1), row(2, 9, 3, 2, 1)}, 8},
		{[]api.Row{row(1, 8, 2, 2, 1), row(2, 9, 2, 2, 1), row(0, 0, 3)}, 0},
		{[]api.Row{row(1, 8, 2, 2, 1, 7), row(2, 9, 2, 2, 1, 0, 7), row(9, 2), row(63, 1, 9)}, 8},
	} {
		r := having(t, 0, config, events())
		tell(t, r, c.rows...)
		for range 2 {
			wantStable(t, fmt.Sprint(c.rows), r, c.want)
			wantRow(t, "behind Stable", r, row(0, max(8, told(c.rows, 0).Time), highest(told(c.rows, 0).Have, []uint64{2, 2, 1})...))
		}
	}
}

// told returns the row of a node among others.
func told(rows []api.Row, node int) api.Row {
	for _, x := range rows {
		if x.Node == node {
			return x
		}
	}
	return api.Row{Node: node}
}

func highest(a, b []uint64) []uint64 {
	c := make([]uint64, max(len(a), len(b)))
	copy(c, a)
	for i, n := range b {
		c[i] = max(c[i], n)
	}
	return c
}

// TestStableNotes: the own row is that of what the store has by then, however it got it.
func TestStableNotes(t *testing.T) {
	r := having(t, 0, config, events())
	tell(t, r, row(1, 30, 3, 2, 1), row(2, 30, 3, 2, 1))
	wantStable(t, "told", r, 8)
	_, e := r.Store().Write(drop("k"))
	wantError(t, "the store's Write", e, api.OK)
	wantRow(t, "before Stable", r, row(0, 8, 2, 2, 1))
	wantStable(t, "behind the store's Write", r, 9)
	wantRow(t, "behind Stable", r, row(0, 9, 3, 2, 1))
}

// TestOneByOne: it rises with each member that is told, and with each event that comes.
func TestOneByOne(t *testing.T) {
	r := open(t, 0, config)
	tell(t, r, row(1, 8, 2, 2, 1), row(2, 8, 2, 2, 1))
	want := uint64(0)
	for i, e := range events() {
		r.Store().Put(nil, []api.Event{e})
		if i == 4 { // until then 1 has an event of its own that is not there
			want = 8
		}
		wantStable(t, fmt.Sprint("behind event ", i), r, want)
	}
	for i, x := range []struct {
		r    api.Row
		want uint64
	}{{row(1, 12), 8}, {row(2, 11), 8}, {row(0, 10), 10}, {row(0, 12), 11}, {row(2, 13), 12}, {row(0, 5), 12}} {
		tell(t, r, x.r)
		wantStable(t, fmt.Sprint("told ", i), r, x.want)
	}
}

// everywhere lets a replica know that some nodes have what it has, and write behind a time.
func everywhere(t *testing.T, r *replica.Replica, time uint64, nodes ...int) {
	t.Helper()
	for _, n := range nodes {
		tell(t, r, api.Row{Node: n, Have: r.Vector(), Time: time})
	}
}

// TestJoin: a member that is added is waited for, but what was told before is not taken back.
func TestJoin(t *testing.T) {
	for _, asked := range []bool{true, false} {
		for _, heard := range []bool{true, false} {
			r := having(t, 0, config, events())
			everywhere(t, r, 8, 1, 2)
			was := uint64(0)
			if asked {
				was = 8
				wantStable(t, "all told", r, was)
			}
			if heard {
				get(t, r, at(1, 3, 9, join(9)))
			} else {
				write(t, r, join(9))
			}
			wantStable(t, "it has joined", r, was)
			everywhere(t, r, 9, 1, 2)
			wantStable(t, "the others know", r, was)
			tell(t, r, row(9, 4, 2, 2, 1))
			wantStable(t, "it has something", r, max(4, was))
			everywhere(t, r, 9, 9)
			wantStable(t, "it has all", r, 9)
		}
	}
}

// TestRetire: a member that has retired is not waited for, as soon as its last event is there.
func TestRetire(t *testing.T) {
	r := having(t, 0, config, events())
	everywhere(t, r, 8, 1)
	wantStable(t, "of 2 nothing is known", r, 0)
	get(t, r, at(2, 2, 9, retire()))
	wantStable(t, "2 has retired", r, 8)
	everywhere(t, r, 12, 1)
	wantStable(t, "1 knows that", r, 9)
	get(t, r, at(1, 3, 13, retire()))
	wantStable(t, "1 has retired", r, 13)
	write(t, r, drop("k"))
	wantStable(t, "it is alone", r, 14)
	write(t, r, retire())
	wantStable(t, "there is no member", r, 14)
	everywhere(t, r, 99, 0, 1, 2)
	wantStable(t, "there is no member", r, 14)
}

// TestNoMember: of no members nothing is stable.
func TestNoMember(t *testing.T) {
	c := config
	c.Nodes = 0
	r := open(t, 0, c)
	everywhere(t, r, 99, 0, 1, 2)
	wantStable(t, "no member", r, 0)
	wantError(t, "Truncate", r.Truncate(), api.OK)
	wantStable(t, "no member", r, 0)
}

// TestStableIsWhatIsFolded: it is at least the store's time, whatever is known.
func TestStableIsWhatIsFolded(t *testing.T) {
	for time := range uint64(9) {
		r := having(t, 0, config, events())
		wantError(t, "the store's Truncate", r.Store().Truncate(time), api.OK)
		wantStable(t, "nothing told", r, time)
		tell(t, r, row(1, 8, 0, 2), row(2, 8, 0, 2))
		wantStable(t, "they lack what is folded", r, time)
		tell(t, r, row(1, 4, 2, 2, 1), row(2, 4, 2, 2, 1))
		wantStable(t, "told all", r, 8)
	}
	r := open(t, 9, config)
	install(t, r, foldOf(t, 3, events()[:3]), 5)
	wantStable(t, "installed", r, 5)
	r = open(t, 9, config)
	install(t, r, foldOf(t, 3, events()[:3]), 77)
	wantStable(t, "installed", r, 77)
}

// TestStableOfALaterFold: a time that was told is not taken back by an earlier one of the store.
func TestStableOfALaterFold(t *testing.T) {
	r := having(t, 0, config, events())
	everywhere(t, r, 8, 1, 2)
	wantStable(t, "told", r, 8)
	write(t, r, join(9))
	wantError(t, "the store's Truncate", r.Store().Truncate(3), api.OK)
	wantStable(t, "folded up to 3", r, 8)
	wantError(t, "Truncate", r.Truncate(), api.OK)
	if r.Store().Time() != 8 || r.View().Len() != 1 {
		t.Errorf("folded up to %d, %d events are told", r.Store().Time(), r.View().Len())
	}
	wantStable(t, "folded up to 8", r, 8)
}

// TestEnd: End is the greatest time.
func TestEnd(t *testing.T) {
	for _, time := range []uint64{api.End - 1, api.End, api.End + 1, math.MaxUint64} {
		r := having(t, 9, config, events())
		for n := range 3 {
			r.Matrix().Raise(row(n, time, 2, 2, 1))
		}
		wantStable(t, "as late as can be", r, min(time, api.End))
		wantError(t, "Truncate", r.Truncate(), api.OK)
		if r.Store().Time() != 8 {
			t.Errorf("it has folded up to %d, want 8", r.Store().Time())
		}
		wantStable(t, "as late as can be", r, min(time, api.End))
	}
}

// TestTruncate: up to each time that may be stable; twice, which is as good as once.
func TestTruncate(t *testing.T) {
	for stable := range uint64(9) {
		for _, asked := range []bool{true, false} {
			r := having(t, 0, config, events())
			everywhere(t, r, stable, 1)
			everywhere(t, r, 8, 2)
			for range 3 {
				if asked {
					wantStable(t, "told", r, stable)
				}
				wantError(t, "Truncate", r.Truncate(), api.OK)
				wantFolded(t, fmt.Sprint("folded up to ", stable), r, stable)
				wantView(t, fmt.Sprint("folded up to ", stable), r, 3, events())
				wantRow(t, "behind Truncate", r, row(0, 8, 2, 2, 1))
			}
			wantStable(t, "folded", r, stable)
		}
	}
}

// wantFolded checks up to which time a replica has folded its events.
func wantFolded(t *testing.T, what string, r *replica.Replica, time uint64) {
	t.Helper()
	var floor []uint64
	left := 0
	for _, e := range events() {
		if e.Time > time {
			left++
			continue
		}
		floor = highest(floor, make([]uint64, e.Writer+1))
		floor[e.Writer]++
	}
	if r.Store().Time() != time || !slices.Equal(r.Store().Floor(), floor) || r.View().Len() != left {
		t.Fatalf("%s: the time is %d, the floor %v, and %d events are told, want %v and %d", what, r.Store().Time(), r.Store().Floor(), r.View().Len(), floor, left)
	}
}

// TestTruncateAboveTheClock: no more than the clock is folded, though more is stable. It may be that of a node that has not
// joined, or has retired.
func TestTruncateAboveTheClock(t *testing.T) {
	for _, time := range []uint64{8, 9, 20, api.End} {
		for _, asked := range []bool{true, false} {
			r := having(t, 9, config, events())
			everywhere(t, r, time, 0, 1, 2)
			for range 3 {
				if asked {
					wantStable(t, "told", r, time)
				}
				wantError(t, "Truncate", r.Truncate(), api.OK)
				wantFolded(t, fmt.Sprint(time, " is stable"), r, 8)
				wantView(t, fmt.Sprint(time, " is stable"), r, 3, events())
			}
			r.Store().Put(nil, []api.Event{at(1, 3, 50, join(9))})
			wantStable(t, "what was folded by is told, though it was not asked for", r, time)
		}
	}
	l := append(events(), at(0, 3, 9, retire()))
	r := having(t, 0, config, l)
	everywhere(t, r, 30, 1, 2)
	wantStable(t, "retired", r, 30)
	wantError(t, "Truncate", r.Truncate(), api.OK)
	wantView(t, "retired", r, 3, l)
	if r.Store().Time() != 9 || r.View().Len() != 0 {
		t.Errorf("folded up to %d, %d events are told", r.Store().Time(), r.View().Len())
	}
}

// TestTruncateGoesOn: what is written and heard behind a fold can be folded, too.
func TestTruncateGoesOn(t *testing.T) {
	r, l := open(t, 0, config), []api.Event(nil)
	for i := range uint64(20) {
		l = append(l, write(t, r, set(fmt.Sprint("k", i%3), "v")), at(1, i+1, 2*i+2, add("n", 1)))
		get(t, r, l[len(l)-1])
		everywhere(t, r, 2*i+2, 1, 2)
		wantStable(t, "told", r, 2*i+2)
		if i%3 == 0 {
			wantError(t, "Truncate", r.Truncate(), api.OK)
			if r.View().Len() != 0 || r.Store().Time() != 2*i+2 {
				t.Fatalf("folded up to %d, %d events are told", r.Store().Time(), r.View().Len())
			}
		}
		wantView(t, fmt.Sprint("behind event ", i), r, 3, l)
	}
	if n := len(r.Store().Files()); n > 10 {
		t.Errorf("there are %d files", n)
	}
}

// TestTruncateWithoutRoom: ErrFull until there is enough room, and nothing has changed: not what the matrix knows, nor what is
// stable when a member joins behind it.
func TestTruncateWithoutRoom(t *testing.T) {
	enough := 0
	for room := 0; enough == 0; room++ {
		d := disk.New(wide)
		r := havingOn(t, d, 0, config, events())
		everywhere(t, r, 8, 1, 2)
		r.Store().Write(drop("k")) // of which the matrix does not know yet
		d.Widen(room)
		before, was := state(r), files(d)
		switch e := r.Truncate(); e {
		case api.OK:
			enough = room
			continue
		case api.ErrFull:
		default:
			t.Fatalf("room %d: Truncate: %d", room, e)
		}
		if state(r) != before || files(d) != was {
			t.Fatalf("room %d: Truncate has changed %s to %s", room, before, state(r))
		}
		d.Widen(wide)
		again := openOn(t, d, 0, config, 2)
		wantView(t, "opened anew", again, 3, append(events(), at(0, 3, 9, drop("k"))))
		switch room % 3 {
		case 0:
			write(t, r, join(9))
			wantStable(t, "a member has joined", r, 0)
		case 1:
			wantStable(t, "told", r, 8)
			write(t, r, join(9))
			wantStable(t, "a member has joined", r, 8)
		}
		wantError(t, "Truncate", r.Truncate(), api.OK)
		wantStable(t, "folded", r, []uint64{0, 8, 8}[room%3])
	}
	if enough < 200 {
		t.Errorf("a room of %d was enough", enough)
	}
}

// TestTruncateWithoutRoomAfterStable: what was told before is not taken back by an error.
func TestTruncateWithoutRoomAfterStable(t *testing.T) {
	d := disk.New(wide)
	r := havingOn(t, d, 0, config, events())
	everywhere(t, r, 6, 1, 2)
	wantStable(t, "told", r, 6)
	everywhere(t, r, 8, 1, 2)
	d.Widen(0)
	for range 3 {
		wantError(t, "Truncate", r.Truncate(), api.ErrFull)
	}
	d.Widen(wide)
	write(t, r, join(9))
	wantStable(t, "a member has joined", r, 6)
}

// TestTruncateStops: ErrStop at each operation of the disk; afterwards the events are there, folded or not.
func TestTruncateStops(t *testing.T) {
	seen := map[uint64]bool{}
	c := config
	c.Segment = 1 // so that files are removed behind the fold
	for stop, ended := 0, false; !ended; stop++ {
		for torn := range 4 {
			d := disk.New(wide)
			r := havingOn(t, d, 0, c, events())
			everywhere(t, r, 6, 1, 2)
			d.Arm(stop, torn*20)
			e := r.Truncate()
			if ended = e == api.OK; ended {
				break
			}
			wantError(t, "Truncate", e, api.ErrStop)
			d.Crash(torn * 10)
			r = openOn(t, d, 0, c, 2)
			wantView(t, fmt.Sprint("stopped at ", stop), r, 3, events())
			if r.Store().Time() > 0 {
				wantFolded(t, fmt.Sprint("stopped at ", stop), r, 6)
			}
			wantStable(t, fmt.Sprint("stopped at ", stop), r, r.Store().Time())
			seen[r.Store().Time()] = true
		}
	}
	if len(seen) != 2 {
		t.Errorf("it has folded up to %v", seen)
	}
}

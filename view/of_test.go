package view_test

import (
	"fmt"
	"testing"

	"anabranch/api"
	"anabranch/disk"
	"anabranch/segment"
	"anabranch/store"
	"anabranch/view"
)

// The tests of Of (P15.1).

// sizes are those at which the segments of a store end.
var sizes = []int{0, 60, 1 << 20}

// replicated returns events that stores take: of three nodes, of which one retires, and of one that joins.
func replicated() history {
	h := history{name: "replicated", nodes: 3}
	h.add(1, 0, set("k", "first"))
	h.add(1, 1, set("k", "second"))
	h.add(2, 0, add("n", 1))
	h.add(3, 0, join(5))
	h.add(3, 2, add("n", 0.5))
	h.add(4, 5, set("five", "hi"))
	h.add(6, 2, retire())
	h.add(7, 0, drop("k"))
	h.add(7, 1, put("n", -3))
	h.add(7, 5, join(60))
	h.add(9, 1, set("k", "last"))
	return h
}

// upto returns how many events of a history are not after time.
func (h history) upto(time uint64) int {
	n := 0
	for _, e := range h.l {
		if e.Time <= time {
			n++
		}
	}
	return n
}

// stored returns the store of a node on a disk, with all events of a history.
func stored(t *testing.T, h history, d *disk.Disk, node, size int) *store.Store {
	t.Helper()
	s := opened(t, h, d, node, size)
	if n, e := s.Put(nil, h.l); n != len(h.l) || e != api.OK {
		t.Fatalf("Put: %d, %d", n, e)
	}
	return s
}

func opened(t *testing.T, h history, d *disk.Disk, node, size int) *store.Store {
	t.Helper()
	s, e := store.Open(d, node, h.nodes, size)
	if e != api.OK {
		t.Fatalf("Open: %d", e)
	}
	return s
}

func wantOK(t *testing.T, what string, e api.Errno) {
	t.Helper()
	if e != api.OK {
		t.Fatalf("%s: %d", what, e)
	}
}

// TestOfANewStore: no events, and the members that there are from the beginning.
func TestOfANewStore(t *testing.T) {
	for _, h := range []history{{nodes: 0}, {nodes: 1}, {nodes: 3}, {nodes: 64}} {
		for _, node := range []int{0, 2, 63} {
			wantView(t, fmt.Sprint("node ", node, " of ", h.nodes), view.Of(opened(t, h, disk.New(1<<20), node, 60)), h, 0)
		}
	}
}

// TestOfWhatWasWritten: the example of store.
func TestOfWhatWasWritten(t *testing.T) {
	h := history{nodes: 1}
	s := opened(t, h, disk.New(1<<20), 0, 60)
	for i, e := range []api.Event{set("k", "hi"), add("n", 1), join(3), drop("k"), add("n", 0.25), retire()} {
		if _, wrong := s.Write(e); wrong != api.OK {
			t.Fatalf("Write: %d", wrong)
		}
		h.add(uint64(i+1), 0, e)
		wantView(t, "a store", view.Of(s), h, 0)
	}
}

// TestOf: of stores that have folded nothing, some events, and all of them; of the same ones, opened again; and with events
// that were written since.
func TestOf(t *testing.T) {
	for _, size := range sizes {
		for time := range replicated().last().Time + 1 {
			h, d := replicated(), disk.New(1<<20)
			s := stored(t, h, d, 0, size)
			wantView(t, "nothing folded", view.Of(s), h, 0)
			wantOK(t, "Truncate", s.Truncate(time))
			what := fmt.Sprintf("segments of %d, folded up to %d", size, time)
			wantView(t, what, view.Of(s), h, h.upto(time))
			s = opened(t, h, d, 0, size)
			wantView(t, what+", opened again", view.Of(s), h, h.upto(time))
			_, e := s.Write(put("k", 7))
			wantOK(t, "Write", e)
			h.add(10, 0, put("k", 7))
			wantView(t, what+", with another event", view.Of(s), h, h.upto(time))
			wantOK(t, "Truncate", s.Truncate(10))
			wantView(t, "all folded", view.Of(s), h, len(h.l))
		}
	}
}

// TestOfATimeBehindAllEvents: a store may have folded all events up to a time at which there is none.
func TestOfATimeBehindAllEvents(t *testing.T) {
	h := replicated()
	late := opened(t, h, disk.New(1<<20), 7, 60)
	wantOK(t, "Install", late.Install([]byte(h.encoded()), 1000))
	wantView(t, "a time behind all events", view.Of(late), h, len(h.l))
	h.add(1001, 1, set("k", "later"))
	_, e := late.Put(nil, h.l[len(h.l)-1:])
	wantOK(t, "Put", e)
	wantView(t, "an event behind it", view.Of(late), h, len(h.l)-1)
}

// TestOfATimeBeforeAllEvents: nor need there be one up to it.
func TestOfATimeBeforeAllEvents(t *testing.T) {
	h, d := history{nodes: 2}, disk.New(1<<20)
	h.add(5, 1, set("k", "x"))
	s := stored(t, h, d, 0, 60)
	wantOK(t, "Truncate", s.Truncate(4))
	wantView(t, "a time before all events", view.Of(s), h, 0)
	wantView(t, "opened again", view.Of(opened(t, h, d, 0, 60)), h, 0)
}

// TestOfAnInstalledFold: of a store that has the fold of another one, and then the events after it.
func TestOfAnInstalledFold(t *testing.T) {
	h := replicated()
	for time := uint64(1); time <= h.last().Time; time++ {
		from := stored(t, h, disk.New(1<<20), 0, 60)
		wantOK(t, "Truncate", from.Truncate(time))
		late, n := opened(t, h, disk.New(1<<20), 60, 60), h.upto(time)
		wantOK(t, "Install", late.Install(from.Base().Encode(), time))
		wantView(t, "an installed fold", view.Of(late), h.first(n), n)
		_, e := late.Put(from.Floor(), h.l)
		wantOK(t, "Put", e)
		wantView(t, "the events behind it", view.Of(late), h, n)
	}
}

// TestOfIsByOfTheStore: of its Base and its Lists.
func TestOfIsByOfTheStore(t *testing.T) {
	h := replicated()
	s := stored(t, h, disk.New(1<<20), 1, 60)
	wantOK(t, "Truncate", s.Truncate(3))
	v, e := view.By(s.Base(), s.Lists())
	wantOK(t, "By", e)
	wantView(t, "By", v, h, h.upto(3))
	wantView(t, "Of", view.Of(s), h, h.upto(3))
}

// TestOfStays: a view is of what the store had when it was made.
func TestOfStays(t *testing.T) {
	h := replicated()
	for time := range h.last().Time + 1 {
		s := stored(t, h, disk.New(1<<20), 0, 60)
		wantOK(t, "Truncate", s.Truncate(time))
		v := view.Of(s)
		want := func(what string) { wantView(t, what, v, h, h.upto(time)) }
		for _, e := range []api.Event{set("k", "more"), join(8), set("k", "still more")} {
			_, wrong := s.Write(e)
			wantOK(t, "Write", wrong)
		}
		want("after Write")
		_, e := s.Put(nil, []api.Event{at(1, 4, 20, drop("five"))})
		wantOK(t, "Put", e)
		want("after Put")
		wantOK(t, "Truncate", s.Truncate(13))
		want("after Truncate")
		next := history{nodes: 3, l: h.l[:len(h.l):len(h.l)]}
		for i, e := range []api.Event{set("k", "more"), join(8), set("k", "still more"), retire()} {
			next.add(uint64(10+i), 0, e)
		}
		wantOK(t, "Install", s.Install([]byte(next.encoded()), 14))
		want("after Install")
		s.Truncate(20)
		want("after another Truncate")
	}
}

// TestOfANilStore: no view, of which then nothing is told.
func TestOfANilStore(t *testing.T) {
	if v := view.Of(nil); v != nil {
		t.Errorf("Of(nil) = %v", v)
	}
}

// TestOfOddStores is P1: of what no store writes, and of stores of which nothing is promised, there may be no view.
func TestOfOddStores(t *testing.T) {
	d := disk.New(1 << 20)
	file, e := segment.Create(d, 1, 1)
	wantOK(t, "Create", e)
	for i, time := range []uint64{5, 3, 5} {
		file, e = file.Add(d, at(1, uint64(i+1), time, drop("k")))
		wantOK(t, "Add", e)
	}
	s := opened(t, history{nodes: 2}, d, 0, 1<<20)
	if n := len(s.Lists()[1]); n != 3 {
		t.Fatalf("%d events", n)
	}
	if v := view.Of(s); v != nil {
		t.Errorf("a view of events that are not in order: %d", v.Len())
	}
	d = disk.New(1 << 20)
	off := stored(t, replicated(), d, 0, 60)
	d.Arm(2, 5)
	off.Truncate(9)
	for _, s := range []*store.Store{{}, off} {
		v := view.Of(s)
		v.Keys()
		v.At(0)
		v.Range(api.Spot{}, 9)
		v.Fold()
		v.Base()
	}
}

package feed_test

import (
	"fmt"
	"math/rand"
	"slices"
	"testing"

	"anabranch/api"
	"anabranch/disk"
	"anabranch/feed"
)

// model is what a feed of writer 3 and its disk must be.
type model struct {
	d           *disk.Disk
	f           *feed.Feed
	size        int
	floor, time uint64
	l           []api.Event // all events, also those that are folded
	safe        int         // how many of them are durable
	firsts      []uint64    // of the segments
}

// TestNothingDurableIsLost does anything to feeds whose disks stop at any operation, and are full now and then.
func TestNothingDurableIsLost(t *testing.T) {
	r := newRandom(92)
	for range 300 {
		m := &model{d: disk.New(200 + r.Intn(2000)), size: []int{0, 60, 100, 200, large}[r.Intn(5)]}
		m.open(t)
		for range 80 {
			m.step(t, r)
			if !m.d.On() {
				m.d.Crash(r.Intn(80))
				m.reopen(t)
			}
			m.check(t)
			if t.Failed() {
				t.Fatal("see above")
			}
		}
	}
}

// step does one thing, chosen at random.
func (m *model) step(t *testing.T, r *rand.Rand) {
	switch r.Intn(14) {
	case 0:
		m.d.Arm(r.Intn(6), r.Intn(60))
	case 1:
		m.d.Crash(r.Intn(80))
		m.reopen(t)
	case 2:
		if m.f.Sealed() { // otherwise nothing would happen any more
			m.fold(t, uint64(m.safe))
		}
	case 3, 4:
		m.sync(t)
	case 5:
		m.fold(t, uint64(r.Intn(len(m.l)+3)))
	case 6:
		m.fold(t, m.floor)
	case 7:
		_, used := m.d.Room()
		m.d.Widen(used + r.Intn(400))
	default:
		m.add(t, r)
	}
}

func (m *model) sync(t *testing.T) {
	switch e := m.f.Sync(); e {
	case api.OK:
		m.safe = len(m.l)
	case api.ErrStop:
	default:
		t.Errorf("Sync: %d", e)
	}
}

func (m *model) fold(t *testing.T, floor uint64) {
	right := floor >= m.floor && floor <= uint64(len(m.l)) && m.safe == len(m.l)
	time := m.time + floor%3
	e := m.f.Fold(floor, time)
	if !right || e != api.OK && e != api.ErrStop {
		wantError(t, "Fold", e, api.ErrArg)
		return
	}
	m.floor, m.time = floor, time
	for len(m.firsts) > 1 && m.firsts[1] <= floor+1 {
		m.firsts = m.firsts[1:]
	}
}

func (m *model) add(t *testing.T, r *rand.Rand) {
	last, begins := m.time, len(m.firsts) == 0 || len(file(3, m.firsts[len(m.firsts)-1], m.part(len(m.firsts)-1)...)) >= m.size
	if next := uint64(len(m.l)) + 1; len(m.firsts) > 0 && m.firsts[len(m.firsts)-1] == next {
		begins = false
	}
	retired := false
	if uint64(len(m.l)) > m.floor {
		last, retired = m.l[len(m.l)-1].Time, m.l[len(m.l)-1].Kind == api.Retire
	}
	x := randomEvent(r, 3, uint64(len(m.l))+1, last+1+r.Uint64()%5)
	want := api.OK
	if r.Intn(6) == 0 {
		x.Seq, want = x.Seq+1-2*(r.Uint64()%2), api.ErrGap
	} else if r.Intn(6) == 0 {
		x.Time, want = last, api.ErrOld
	}
	if retired {
		want = api.ErrRetired
	}
	e := m.f.Add(x)
	if begins && want == api.OK && e != api.ErrStop { // a Sync comes first, whether there is room or not
		m.safe = len(m.l)
	}
	switch {
	case want != api.OK || e != api.OK && e != api.ErrFull && e != api.ErrStop:
		wantError(t, "Add", e, want)
	case e == api.OK && begins:
		m.firsts = append(m.firsts, x.Seq)
		m.l = append(m.l, x)
	case e != api.ErrFull: // with ErrStop, all of it may be written
		m.l = append(m.l, x)
	}
}

// part returns the events in a segment.
func (m *model) part(i int) []api.Event {
	end := len(m.l)
	if i+1 < len(m.firsts) {
		end = int(m.firsts[i+1] - 1)
	}
	return m.l[m.firsts[i]-1 : end]
}

// open opens the feed.
func (m *model) open(t *testing.T) {
	t.Helper()
	var e api.Errno
	if m.f, e = feed.Open(m.d, 3, m.size, m.floor, m.time); e != api.OK {
		t.Fatalf("Open: %d", e)
	}
}

// reopen opens the feed after a crash. It has what was durable, and the first ones of the other events.
func (m *model) reopen(t *testing.T) {
	t.Helper()
	m.open(t)
	n := int(m.f.Next() - 1)
	if n < m.safe || n > len(m.l) {
		t.Fatalf("%d events of %d, of which %d were durable", n, len(m.l), m.safe)
	}
	m.l, m.safe, m.firsts = m.l[:n:n], n, nil
	for _, name := range m.d.Names("") {
		var first uint64
		fmt.Sscanf(name, "feed-3-%x", &first)
		m.firsts = append(m.firsts, first)
	}
}

// check compares everything that the feed tells, and the files.
func (m *model) check(t *testing.T) {
	t.Helper()
	wantFeed(t, m.f, m.floor, m.time, len(m.firsts), m.l[m.floor:]...)
	var files []string
	for i, first := range m.firsts {
		files = append(files, nameOf(3, first), file(3, first, m.part(i)...))
	}
	wantFiles(t, m.d, files...)
}

// TestAddAtWhichTheDiskStops: a crash leaves the feed without the event, or with all of it.
func TestAddAtWhichTheDiskStops(t *testing.T) {
	l := run(1, 4)
	for _, size := range []int{0, sizeOf(1, 2), large} {
		for n := range l {
			for stop := 0; ; stop++ {
				on := false
				for torn := 0; torn < 80; torn += 3 {
					for _, keep := range []int{-1, 0, torn / 2, wide} {
						f, d := begun(t, size, l[:n]...)
						d.Arm(stop, torn)
						e := f.Add(l[n])
						if on = d.On(); on {
							wantError(t, "Add", e, api.OK)
							continue
						}
						wantError(t, "Add", e, api.ErrStop)
						d.Crash(keep)
						g := opened(t, d, size, 0, 0)
						left := l[:min(int(g.Next())-1, n+1)]
						wantEvents(t, "All", g.All(), left)
						if len(left) < n {
							t.Errorf("%d events of %d", len(left), n)
						}
						for _, e := range l[len(left):] {
							wantError(t, "Add", g.Add(e), api.OK)
						}
						wantError(t, "Sync", g.Sync(), api.OK)
						wantEvents(t, "All", g.All(), l)
						wantFiles(t, d, split(size, l...)...)
					}
				}
				if on {
					break
				}
			}
		}
	}
}

// TestSyncAtWhichTheDiskStops: what was durable before remains.
func TestSyncAtWhichTheDiskStops(t *testing.T) {
	l := run(1, 4)
	f, d := begun(t, large, l[:2]...)
	wantError(t, "Add", f.Add(l[2]), api.OK)
	wantError(t, "Add", f.Add(l[3]), api.OK)
	d.Arm(0, 0)
	wantError(t, "Sync", f.Sync(), api.ErrStop)
	d.Crash(len(record(l[2])) + 1)
	g := opened(t, d, large, 0, 0)
	wantFeed(t, g, 0, 0, 1, slices.Clone(l[:3])...)
}

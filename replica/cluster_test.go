package replica_test

import (
	"fmt"
	"math/rand"
	"slices"
	"testing"

	"anabranch/api"
	"anabranch/disk"
	"anabranch/event"
	"anabranch/letter"
	"anabranch/replica"
	"anabranch/vector"
)

// The tests of P6 for whole clusters: what is stable remains stable, folding is invisible, nodes join late and retire.

const (
	early = 3 // nodes that have joined from the beginning
	all   = 5 // with those that join late
)

// machine is a node's disk, and the replica on it while it runs.
type machine struct {
	node   int
	d      *disk.Disk
	r      *replica.Replica // nil while it does not run
	opened uint64
	c      api.Config
	stable uint64          // what its replica told last
	had    vector.Vector   // when it was checked last
	floor  vector.Vector   // then
	tried  map[uint64]bool // the times of events that it tried to write, and that may be on its disk
}

// member reports whether it runs, and is a member according to its own events.
func (m *machine) member() bool { return m.r != nil && m.r.Store().Member(m.node) }

// world is a cluster with a network that loses, doubles, bends and disorders packets.
type world struct {
	r    *rand.Rand
	l    []*machine
	net  [][]byte
	log  []api.Event // all that were written, in order
	told uint64      // the greatest time that a member has told as stable
	seen [4]int      // how often a fold came, a disk stopped, a Join was written, a node retired
}

func newWorld(t *testing.T, seed int64) *world {
	t.Helper()
	w := &world{r: rand.New(rand.NewSource(seed))}
	for node := range all {
		c := api.Config{Nodes: early, Segment: 40 + w.r.Intn(200), Batch: 1 + w.r.Intn(4), Chunk: 1 + w.r.Intn(80)}
		m := &machine{node: node, d: disk.New(wide), c: c, tried: map[uint64]bool{}}
		w.l = append(w.l, m)
		if node < early {
			w.boot(t, m)
		}
	}
	return w
}

// boot starts a node, which must have what it had.
func (w *world) boot(t *testing.T, m *machine) {
	t.Helper()
	m.opened++
	m.r = openOn(t, m.d, m.node, m.c, m.opened)
	for seq := m.had.Get(m.node) + 1; seq <= m.r.Vector().Get(m.node); seq++ {
		e, wrong := m.r.Store().Feed(m.node).Get(seq)
		if wrong != api.OK || !m.tried[e.Time] {
			t.Fatalf("node %d has an event of its own that it never tried to write: %v, %d", m.node, e, wrong)
		}
		w.wrote(t, e)
	}
	clear(m.tried)
	m.stable = m.r.Store().Time()
}

// halt ends the run of a node.
func (m *machine) halt(keep int) {
	m.d.Crash(keep)
	m.r = nil
}

// wrote records an event.
func (w *world) wrote(t *testing.T, e api.Event) {
	t.Helper()
	if e.Time <= w.told {
		t.Fatalf("%v is written, but %d is told as stable", e, w.told)
	}
	i, found := slices.BinarySearchFunc(w.log, e, func(a, b api.Event) int { return event.Compare(event.At(a), event.At(b)) })
	if found {
		t.Fatalf("%v is written a second time", e)
	}
	w.log = slices.Insert(w.log, i, e)
}

// write writes an event, if the node may.
func (w *world) write(t *testing.T, m *machine) {
	t.Helper()
	e := set(fmt.Sprint("k", w.r.Intn(5)), fmt.Sprint(w.r.Int63()))
	switch k := w.r.Intn(30); {
	case k < 10:
		e = add("n", float64(w.r.Intn(100)))
	case k < 13:
		e = drop(fmt.Sprint("k", w.r.Intn(5)))
	case k < 16 && len(w.log) > 20:
		e = join(early + w.r.Intn(all-early))
	case k < 17 && m.node > 0:
		e = retire()
	}
	time := m.r.Store().Clock() + 1
	x, wrong := m.r.Write(e)
	switch wrong {
	case api.OK:
		w.wrote(t, x)
		switch x.Kind {
		case api.Join:
			w.seen[2]++
		case api.Retire:
			w.seen[3]++
		}
	case api.ErrStop:
		m.tried[time] = true
	case api.ErrFull, api.ErrMember, api.ErrRetired, api.ErrOld:
	default:
		t.Fatalf("Write(%v): %d", e, wrong)
	}
}

// send lets the first letter of an exchange be under way.
func (w *world) send(t *testing.T, m *machine, to int) {
	t.Helper()
	w.net = append(w.net, begin(t, m.r, to))
}

// deliver lets some packet arrive, or be lost; it may arrive again, and one of its bytes may be bent.
func (w *world) deliver(t *testing.T) {
	t.Helper()
	i := w.r.Intn(min(len(w.net), 1+w.r.Intn(9)))
	p := w.net[i]
	if w.r.Intn(8) > 0 {
		w.net = slices.Delete(w.net, i, i+1)
	}
	m := w.l[decoded(t, p).To]
	if m.r == nil || w.r.Intn(10) == 0 {
		return
	}
	if w.r.Intn(10) == 0 {
		w.bend(t, m, p)
		return
	}
	w.hear(t, m, p)
}

// bend lets a packet arrive of which one byte is another one.
func (w *world) bend(t *testing.T, m *machine, p []byte) {
	t.Helper()
	bent := slices.Clone(p)
	bent[w.r.Intn(len(bent))] ^= byte(1 + w.r.Intn(255))
	before := state(m.r)
	if l, e := m.r.Hear(bent); l != nil || e == api.OK || state(m.r) != before {
		t.Fatalf("node %d has heard %x, which was %x: %v, %d", m.node, bent, p, l, e)
	}
}

// hear lets a packet arrive.
func (w *world) hear(t *testing.T, m *machine, p []byte) {
	t.Helper()
	floor := m.r.Store().Floor()
	l, e := m.r.Hear(p)
	for _, x := range l {
		w.net = append(w.net, letter.Encode(x))
	}
	switch e {
	case api.OK, api.ErrOld, api.ErrGap, api.ErrFull, api.ErrStop:
	case api.ErrForm: // the chunks of two folds of the same size, which answer the same Hello
		if x := decoded(t, p); x.Kind != letter.Chunk {
			t.Fatalf("node %d: Hear(%x): ErrForm", m.node, p)
		}
	default:
		t.Fatalf("node %d: Hear(%x): %d", m.node, p, e)
	}
	if !vector.Same(floor, m.r.Store().Floor()) {
		w.seen[0]++
	}
}

// stable asks for a stable time.
func (w *world) stable(t *testing.T, m *machine) {
	t.Helper()
	time := m.r.Stable()
	if time < m.stable || time < m.r.Store().Time() {
		t.Fatalf("node %d tells %d as stable, after %d, and has folded up to %d", m.node, time, m.stable, m.r.Store().Time())
	}
	m.stable = time
	if m.member() {
		w.told = max(w.told, time)
	}
}

// truncate folds what is stable, which nobody can see.
func (w *world) truncate(t *testing.T, m *machine) {
	t.Helper()
	mark, have, folded := m.r.View().Mark(), m.r.Vector(), min(m.r.Store().Clock(), m.r.Stable())
	switch e := m.r.Truncate(); {
	case e == api.OK && m.r.Store().Time() != folded:
		t.Fatalf("node %d has folded up to %d, want %d", m.node, m.r.Store().Time(), folded)
	case e == api.OK, e == api.ErrFull:
		if m.r.View().Mark() != mark || !vector.Same(m.r.Vector(), have) {
			t.Fatalf("node %d has another state after a Truncate", m.node)
		}
	case e != api.ErrStop:
		t.Fatalf("node %d: Truncate: %d", m.node, e)
	}
}

// step does one thing at some node.
func (w *world) step(t *testing.T) {
	t.Helper()
	m := w.l[w.r.Intn(all)]
	if m.r == nil {
		rare := 3
		if m.opened == 0 {
			rare = 60
		}
		if w.r.Intn(rare) == 0 {
			w.boot(t, m)
			w.check(t)
		}
		return
	}
	switch k := w.r.Intn(100); {
	case k < 20:
		w.write(t, m)
	case k < 32:
		w.send(t, m, (m.node+1+w.r.Intn(all-1))%all)
		w.net = w.net[max(0, len(w.net)-30):]
	case k < 76:
		for n := 3; n > 0 && len(w.net) > 0; n-- {
			w.deliver(t)
		}
	case k < 86:
		w.stable(t, m)
	case k < 95:
		w.truncate(t, m)
	case k < 96:
		m.halt(w.r.Intn(100))
	case k < 98:
		m.d.Arm(w.r.Intn(12), w.r.Intn(60))
	default:
		_, used := m.d.Room()
		m.d.Widen([]int{wide, used + w.r.Intn(200), wide}[w.r.Intn(3)])
	}
	w.check(t)
}

// check checks each node: it has what it had, which is what was written, and as a member all that was told as stable.
func (w *world) check(t *testing.T) {
	t.Helper()
	for _, m := range w.l {
		switch {
		case m.r == nil:
			continue
		case !m.d.On():
			w.seen[1]++
			m.halt(w.r.Intn(100))
			continue
		case !m.had.Within(m.r.Vector()):
			t.Fatalf("node %d had %v, and has %v", m.node, m.had, m.r.Vector())
		}
		have, floor := m.r.Vector(), m.r.Store().Floor()
		if !slices.Equal(m.had, have) || !slices.Equal(m.floor, floor) {
			m.had, m.floor = have, floor
			w.checkState(t, m)
		}
		for _, e := range w.log {
			if m.member() && e.Time <= w.told && e.Seq > have.Get(e.Writer) {
				t.Fatalf("node %d lacks %v, but %d was told as stable", m.node, e, w.told)
			}
		}
	}
}

// checkState checks that a node is in the state to which the events lead that it has.
func (w *world) checkState(t *testing.T, m *machine) {
	t.Helper()
	f := foldOf(t, early, nil)
	for _, e := range w.log {
		if e.Seq <= m.had.Get(e.Writer) {
			wantError(t, "Apply", f.Apply(e), api.OK)
		}
	}
	if m.r.View().Mark() != f.Mark() {
		t.Fatalf("node %d has %v, and its state is another one", m.node, m.had)
	}
}

// wake starts all nodes, each with enough room.
func (w *world) wake(t *testing.T) {
	t.Helper()
	for _, m := range w.l {
		m.d.Widen(wide)
		m.d.Arm(-1, 0)
		if m.r == nil {
			w.boot(t, m)
		}
	}
	w.check(t)
}

// round lets each node exchange with each other one, without a loss.
func (w *world) round(t *testing.T) {
	t.Helper()
	for _, a := range w.l {
		for _, b := range w.l {
			if a == b {
				continue
			}
			w.net = nil
			for w.send(t, a, b.node); len(w.net) > 0; {
				p := w.net[0]
				w.net = w.net[1:]
				w.hear(t, w.l[decoded(t, p).To], p)
			}
		}
	}
}

// settle lets all become alike, and checks that they are, and that everything is stable then.
func (w *world) settle(t *testing.T) {
	t.Helper()
	w.wake(t)
	for range 3 {
		w.round(t)
	}
	last := uint64(0)
	if len(w.log) > 0 {
		last = w.log[len(w.log)-1].Time
	}
	for _, m := range w.l {
		wantView(t, fmt.Sprintf("node %d, settled", m.node), m.r, early, w.log)
		w.stable(t, m)
		if m.member() && m.stable < last {
			t.Fatalf("node %d tells %d as stable, want %d", m.node, m.stable, last)
		}
	}
	w.check(t)
}

// TestClusters: nothing that a member tells as stable ever lacks at another one, no event with a time up to it is ever written,
// and what a node folds changes nothing that it tells.
func TestClusters(t *testing.T) {
	var seen [4]int
	told := 0
	for seed := range int64(150) {
		w := newWorld(t, seed)
		for range 2 {
			for range 400 {
				w.step(t)
			}
			w.settle(t)
		}
		for i, n := range w.seen {
			seen[i] += n
		}
		if w.told > 0 {
			told++
		}
	}
	if slices.Min(seen[:]) < 60 || told < 120 {
		t.Errorf("%v folds came, disks stopped, nodes joined, nodes retired; something was stable in %d", seen, told)
	}
}

package post_test

import (
	"fmt"
	"math/rand"
	"testing"

	"anabranch/api"
	"anabranch/disk"
	"anabranch/event"
	"anabranch/fold"
	"anabranch/letter"
	"anabranch/order"
	"anabranch/post"
	"anabranch/replica"
)

// The tests of P6 over a post: whatever happens to packets in transit, what is stable remains stable, and folding is invisible.

const (
	early = 3 // nodes that have joined from the beginning
	nodes = 5 // with those that join late
)

// cluster is replicas whose letters are in transit in a post.
type cluster struct {
	r      *rand.Rand
	l      []*replica.Replica
	o      post.Post
	log    [nodes][]api.Event // what was written, by writer
	stable [nodes]uint64      // what each replica told last
	told   uint64             // the greatest time that a member has told as stable
	seen   [5]int             // how often a packet was doubled, bent, lost, a fold came, a Join or Retire was written
}

func newCluster(t *testing.T, seed int64) *cluster {
	t.Helper()
	w := &cluster{r: rand.New(rand.NewSource(seed))}
	for n := range nodes {
		c := api.Config{Nodes: early, Segment: 40 + w.r.Intn(200), Batch: 1 + w.r.Intn(4), Chunk: 1 + w.r.Intn(80)}
		r, e := replica.Open(disk.New(1<<28), n, c, 1)
		wantError(t, "Open", e, api.OK)
		w.l = append(w.l, r)
	}
	return w
}

func (w *cluster) member(n int) bool { return w.l[n].Store().Member(n) }

// write writes an event, if the node may: never at a time that was told as stable.
func (w *cluster) write(t *testing.T, n int) {
	t.Helper()
	e := api.Event{Kind: api.Set, Key: fmt.Sprint("k", w.r.Intn(5)), Text: []byte(fmt.Sprint(w.r.Int63()))}
	switch k := w.r.Intn(30); {
	case k < 3 && len(w.log[n]) > 15: // late, so that events are folded before
		e = api.Event{Kind: api.Join, Node: early + w.r.Intn(nodes-early)}
	case k < 4 && n > 0 && len(w.log[n]) > 3:
		e = api.Event{Kind: api.Retire}
	}
	x, wrong := w.l[n].Write(e)
	switch {
	case wrong == api.OK && x.Time <= w.told:
		t.Fatalf("%v is written, but %d is told as stable", x, w.told)
	case wrong == api.OK:
		w.log[n] = append(w.log[n], x)
		if x.Kind == api.Join || x.Kind == api.Retire {
			w.seen[4]++
		}
	case wrong != api.ErrMember && wrong != api.ErrRetired && wrong != api.ErrOld:
		t.Fatalf("Write(%v): %d", e, wrong)
	}
}

func (w *cluster) begin(t *testing.T, from, to int) {
	t.Helper()
	p, e := w.l[from].Begin(to)
	wantError(t, "Begin", e, api.OK)
	w.o.Send(post.Packet{From: from, To: to, P: p})
}

// disturb lets something happen to a packet in transit.
func (w *cluster) disturb() {
	before := w.o.Len()
	switch i := anyInt(w.r); w.r.Intn(3) {
	case 0:
		if w.o.Double(i) == api.OK {
			w.seen[0]++
		}
	case 1:
		if w.o.Bend(i, anyInt(w.r), anyInt(w.r)) == api.OK {
			w.seen[1]++
		}
	default:
		if w.o.Take(i); w.o.Len() < before {
			w.seen[2]++
		}
	}
}

// deliver lets a packet arrive: if it is bent, it is refused, and nothing changes.
func (w *cluster) deliver(t *testing.T, i int) {
	t.Helper()
	x, e := w.o.Take(i)
	if e != api.OK {
		return
	}
	r := w.l[x.To]
	time, have, mark := r.Store().Time(), r.Vector(), r.View().Mark()
	l, e := r.Hear(x.P)
	if x.Bent && (e == api.OK || len(l) > 0 || fmt.Sprint(have) != fmt.Sprint(r.Vector()) || mark != r.View().Mark()) {
		t.Fatalf("node %d has heard a bent packet: %v, %d", x.To, x, e)
	}
	switch e {
	case api.OK, api.ErrOld, api.ErrGap:
	case api.ErrForm, api.ErrShort, api.ErrLong: // of a packet that is not bent, only if the chunks of two folds are mixed
		if y, wrong := letter.Decode(x.P); !x.Bent && (wrong != api.OK || y.Kind != letter.Chunk) {
			t.Fatalf("node %d: Hear(%v): %d", x.To, x, e)
		}
	default:
		t.Fatalf("node %d: Hear(%v): %d", x.To, x, e)
	}
	if r.Store().Time() > time {
		w.seen[3]++
	}
	for _, y := range l {
		w.o.Send(post.Packet{From: y.From, To: y.To, P: letter.Encode(y)})
	}
}

// ask asks for a stable time, which never falls.
func (w *cluster) ask(t *testing.T, n int) {
	t.Helper()
	time := w.l[n].Stable()
	if time < w.stable[n] {
		t.Fatalf("node %d tells %d as stable, after %d", n, time, w.stable[n])
	}
	w.stable[n] = time
	if w.member(n) {
		w.told = max(w.told, time)
	}
}

// truncate folds what is stable, which nobody can see.
func (w *cluster) truncate(t *testing.T, n int) {
	t.Helper()
	mark, have := w.l[n].View().Mark(), fmt.Sprint(w.l[n].Vector())
	wantError(t, "Truncate", w.l[n].Truncate(), api.OK)
	if w.l[n].View().Mark() != mark || fmt.Sprint(w.l[n].Vector()) != have {
		t.Fatalf("node %d has another state after a Truncate", n)
	}
}

// check checks that each member has everything that was told as stable.
func (w *cluster) check(t *testing.T) {
	t.Helper()
	for n, r := range w.l {
		if !w.member(n) {
			continue
		}
		have := r.Vector()
		for writer, l := range w.log {
			if k := have.Get(writer); k < uint64(len(l)) && l[k].Time <= w.told {
				t.Fatalf("node %d lacks %v, but %d was told as stable", n, l[k], w.told)
			}
		}
	}
}

// step does one thing at one of the first so many nodes.
func (w *cluster) step(t *testing.T, nodes int) {
	t.Helper()
	n := w.r.Intn(nodes)
	switch k := w.r.Intn(100); {
	case k < 15:
		w.write(t, n)
	case k < 27:
		w.begin(t, n, (n+1+w.r.Intn(nodes-1))%nodes)
	case k < 75:
		w.deliver(t, w.r.Intn(1+w.r.Intn(12)))
	case k < 87:
		w.disturb()
	case k < 95:
		w.ask(t, n)
	default:
		w.truncate(t, n)
	}
	w.check(t)
}

// settle lets all become alike without a disturbance, and checks that they are, and that everything is stable then.
func (w *cluster) settle(t *testing.T) {
	t.Helper()
	for i := range 3 * nodes * nodes {
		for w.o.Len() > 0 {
			w.deliver(t, 0)
		}
		if from, to := i/nodes%nodes, i%nodes; from != to {
			w.begin(t, from, to)
		}
	}
	f, last := fold.New(early), uint64(0)
	for _, e := range order.All(w.log[:]) {
		wantError(t, "Apply", f.Apply(e), api.OK)
		last = event.At(e).Time
	}
	for n, r := range w.l {
		if r.View().Mark() != f.Mark() {
			t.Fatalf("node %d has not all events: %v", n, r.Vector())
		}
		if w.ask(t, n); w.member(n) && w.stable[n] < last {
			t.Fatalf("node %d tells %d as stable, want %d", n, w.stable[n], last)
		}
	}
	w.check(t)
}

// TestClusters: nothing that a member tells as stable ever lacks at another one, and no event with a time up to it is ever written.
func TestClusters(t *testing.T) {
	var seen [5]int
	told := 0
	for seed := range int64(60) {
		w := newCluster(t, seed)
		for i := range 800 {
			if i < 400 {
				w.step(t, early) // so that the others find events folded
			} else {
				w.step(t, nodes)
			}
		}
		w.settle(t)
		for i, n := range w.seen {
			seen[i] += n
		}
		if w.told > 0 {
			told++
		}
	}
	for i, n := range seen {
		if n < 30 {
			t.Errorf("%v: too few of kind %d", seen, i)
		}
	}
	if told < 50 {
		t.Errorf("something was stable in %d", told)
	}
}

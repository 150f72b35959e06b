package replica_test

import (
	"fmt"
	"math/rand"
	"slices"
	"testing"

	"anabranch/api"
	"anabranch/disk"
	"anabranch/letter"
	"anabranch/matrix"
	"anabranch/replica"
	"anabranch/store"
	"anabranch/talk"
	"anabranch/vector"
	"anabranch/view"
)

// twin is a replica, and next to it what P18.1 and P18.2 make it of, on a disk of its own.
type twin struct {
	node   int
	c      api.Config
	n      uint64 // how often it was opened
	d, own *disk.Disk
	r      *replica.Replica
	s      *store.Store
	m      *matrix.Matrix
	t      *talk.Talks
	stable uint64
}

func newTwin(t *testing.T, node int, c api.Config) *twin {
	t.Helper()
	w := &twin{node: node, c: c, d: disk.New(wide), own: disk.New(wide)}
	w.open(t)
	return w
}

// open opens both.
func (w *twin) open(t *testing.T) {
	t.Helper()
	w.n += 3
	w.r = openOn(t, w.d, w.node, w.c, w.n)
	s, e := store.Open(w.own, w.node, w.c.Nodes, w.c.Segment)
	wantError(t, "store.Open", e, api.OK)
	w.s, w.m, w.t, w.stable = s, matrix.New(), talk.New(w.n<<32, w.c.Batch, w.c.Chunk), 0
}

// bound returns what is stable by a matrix.
func (w *twin) bound(m *matrix.Matrix) uint64 {
	return max(w.stable, w.s.Time(), m.Bound(w.s.Members(), matrix.Known{Floor: w.s.Floor(), Lists: w.s.Lists()}))
}

// write lets both write the same.
func (w *twin) write(t *testing.T, e api.Event) {
	t.Helper()
	x, wrong := w.r.Write(e)
	want, e2 := w.s.Write(e)
	if e2 == api.OK {
		talk.Note(w.s, w.m)
	}
	if wrong != e2 || !sameEvent(x, want) {
		t.Fatalf("Write(%v) = %v, %d, want %v, %d", e, x, wrong, want, e2)
	}
}

// truncate lets both fold. With an error, nothing is noted.
func (w *twin) truncate(t *testing.T) {
	t.Helper()
	rows, stable := w.m.Rows(), w.stable
	talk.Note(w.s, w.m)
	w.stable = w.bound(w.m)
	want := w.s.Truncate(min(w.stable, w.s.Clock()))
	if want != api.OK {
		w.m, w.stable = matrix.New(), stable
		for _, x := range rows {
			w.m.Raise(x)
		}
	}
	wantError(t, "Truncate", w.r.Truncate(), want)
}

// begin lets both begin an exchange, and returns the bytes of the first letter.
func (w *twin) begin(t *testing.T, to int) []byte {
	t.Helper()
	p, e := w.r.Begin(to)
	want, wrong := w.t.Begin(w.s, w.m, to)
	if e != wrong || e == api.OK && string(p) != string(letter.Encode(want)) || e != api.OK && len(p) > 0 {
		t.Fatalf("Begin(%d) = %x, %d, want %v, %d", to, p, e, want, wrong)
	}
	return p
}

// hear lets both hear the same, and returns what is to be sent.
func (w *twin) hear(t *testing.T, p []byte) (l [][]byte) {
	t.Helper()
	answers, e := w.r.Hear(p)
	var want []letter.Letter
	x, wrong := letter.Decode(p)
	if wrong == api.OK {
		want, wrong = w.t.Hear(w.s, w.m, x)
	}
	wantError(t, fmt.Sprintf("Hear(%v)", x), e, wrong)
	if len(answers) != len(want) {
		t.Fatalf("Hear(%v): %d letters, want %d", x, len(answers), len(want))
	}
	for i := range want {
		l = append(l, letter.Encode(want[i]))
		if string(letter.Encode(answers[i])) != string(l[i]) {
			t.Fatalf("Hear(%v): %v, want %v", x, answers[i], want[i])
		}
	}
	return l
}

// check compares both.
func (w *twin) check(t *testing.T, r *rand.Rand) {
	t.Helper()
	if r.Intn(4) == 0 {
		talk.Note(w.s, w.m)
		w.stable = w.bound(w.m)
		wantStable(t, fmt.Sprint("node ", w.node), w.r, w.stable)
	}
	v, want := w.r.View(), view.Of(w.s)
	if v.Mark() != want.Mark() || v.Len() != want.Len() || !vector.Same(w.r.Vector(), w.s.Have()) || w.r.Store().Time() != w.s.Time() {
		t.Fatalf("node %d has %v, and has folded up to %d, want %v and %d", w.node, w.r.Vector(), w.r.Store().Time(), w.s.Have(), w.s.Time())
	}
	if got, want := w.r.Matrix().Rows(), w.m.Rows(); !slices.EqualFunc(got, want, sameRow) {
		t.Fatalf("node %d knows %v, want %v", w.node, got, want)
	}
	for _, key := range []string{"k0", "k1", "n"} {
		c, ok := w.r.Read(key)
		if x, there := want.Cell(key); ok != there || !sameCell(c, x) {
			t.Fatalf("node %d: Read(%q) = %v, %v, want %v, %v", w.node, key, c, ok, x, there)
		}
	}
	if files(w.d) != files(w.own) {
		t.Fatalf("node %d: the files are %s, want %s", w.node, files(w.d), files(w.own))
	}
}

// some returns an event of any kind; some are none.
func some(r *rand.Rand) api.Event {
	switch r.Intn(12) {
	case 0:
		return join(r.Intn(5))
	case 1:
		if r.Intn(5) == 0 {
			return retire()
		}
		return api.Event{Kind: byte(r.Intn(9)), Key: "k0", Node: 70}
	case 2:
		return drop("k0")
	case 3, 4, 5:
		return add("n", r.NormFloat64())
	}
	return set(fmt.Sprint("k", r.Intn(2)), fmt.Sprint(r.Int63()))
}

// deliver lets a packet arrive, at its receiver or another one, as it is or bent, and returns those that are under way then.
func deliver(t *testing.T, r *rand.Rand, twins []*twin, net [][]byte) [][]byte {
	t.Helper()
	i := r.Intn(min(len(net), 6))
	p := net[i]
	if r.Intn(6) > 0 {
		net = slices.Delete(net, i, i+1)
	}
	w := twins[decoded(t, p).To]
	switch r.Intn(20) {
	case 0:
		w = twins[r.Intn(len(twins))]
	case 1:
		p = slices.Clone(p)
		p[r.Intn(len(p))] ^= byte(1 + r.Intn(255))
	case 2:
		p = p[:r.Intn(len(p))]
	}
	return append(net, w.hear(t, p)...)
}

// TestModel: whatever is done with replicas, each answers what the layers below it answer.
func TestModel(t *testing.T) {
	for seed := range int64(60) {
		r := rand.New(rand.NewSource(seed))
		var twins []*twin
		for node := range 4 {
			c := api.Config{Nodes: 3, Segment: r.Intn(200), Batch: r.Intn(5), Chunk: r.Intn(60)}
			twins = append(twins, newTwin(t, node, c))
		}
		var net [][]byte
		for range 300 {
			w := twins[r.Intn(4)]
			switch k := r.Intn(40); {
			case k < 8:
				w.write(t, some(r))
			case k < 14:
				if p := w.begin(t, r.Intn(6)-1); p != nil && decoded(t, p).To < 4 {
					net = append(net[max(0, len(net)-30):], p)
				}
			case k < 17:
				w.truncate(t)
			case k < 18:
				w.d.Crash(0)
				w.own.Crash(0)
				w.open(t)
			case k < 20:
				_, used := w.d.Room()
				room := used + r.Intn(1000)
				w.d.Widen(room)
				w.own.Widen(room)
			default:
				if len(net) > 0 {
					net = deliver(t, r, twins, net)
				}
			}
			w.check(t, r)
		}
	}
}

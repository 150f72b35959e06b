package talk_test

import (
	"fmt"
	"math/rand"
	"slices"
	"testing"

	"anabranch/api"
	"anabranch/fold"
	"anabranch/letter"
	"anabranch/matrix"
	"anabranch/store"
	"anabranch/talk"
	"anabranch/view"
)

// The tests of whole exchanges: of P17.2 and P17.3 together.

// run delivers letters, and those that are sent for them, in order, without a loss. All must be heard.
func run(t *testing.T, peers []*peer, net ...letter.Letter) {
	t.Helper()
	for i := 0; i < len(net); i++ {
		p := peers[net[i].To]
		l, e := p.t.Hear(p.s, p.m, net[i])
		wantError(t, "Hear("+brief(net[i])+")", e, api.OK)
		net = append(net, l...)
	}
}

// lossy delivers letters, and those that are sent for them, of which some are lost, some come twice, and all in any order.
func lossy(t *testing.T, r *rand.Rand, peers []*peer, check func(), net ...letter.Letter) {
	t.Helper()
	for len(net) > 0 {
		i := r.Intn(len(net))
		x := net[i]
		if r.Intn(6) > 0 {
			net = slices.Delete(net, i, i+1)
		}
		if r.Intn(6) == 0 {
			continue
		}
		p := peers[x.To]
		l, e := p.t.Hear(p.s, p.m, x)
		if e != api.OK && e != api.ErrOld && e != api.ErrGap {
			t.Fatalf("Hear(%s): %d", brief(x), e)
		}
		net = append(net, l...)
		check()
	}
}

// alike checks that two replicas have the same events, and are in the same state.
func alike(t *testing.T, what string, a, b *peer) {
	t.Helper()
	if !slices.Equal(a.s.Have(), b.s.Have()) {
		t.Fatalf("%s: %d has %v, and %d has %v", what, a.node, a.s.Have(), b.node, b.s.Have())
	}
	v, w := view.Of(a.s), view.Of(b.s)
	if v == nil || w == nil || v.Mark() != w.Mark() || string(v.Fold().Encode()) != string(w.Fold().Encode()) {
		t.Fatalf("%s: %d and %d have the same events and are in other states", what, a.node, b.node)
	}
}

// part returns a replica that has the first events of a history: a random number of each of two writers, but of its own all.
// What is stable if both have the events up to time is folded, if fold says so.
func part(t *testing.T, r *rand.Rand, h held, node int, time uint64, fold bool) *peer {
	t.Helper()
	most := []uint64{uint64(r.Intn(len(h.l) + 1)), uint64(r.Intn(len(h.l) + 1))}
	most[node] = uint64(len(h.l))
	some := held{nodes: h.nodes}
	for _, e := range h.l {
		if e.Seq <= most[e.Writer] || e.Time <= time {
			some.l = append(some.l, e)
		}
	}
	if fold {
		some.time = min(time, some.clock())
	}
	return some.open(t, settings{node: node, from: uint64(r.Intn(9)), batch: 1 + r.Intn(5), chunk: 1 + r.Intn(40)})
}

// TestExchangeOfTwo: whatever is lost, each replica keeps what it had, and gets no more than both had; and an exchange in which
// nothing is lost makes them alike.
func TestExchangeOfTwo(t *testing.T) {
	for seed := range int64(300) {
		r := rand.New(rand.NewSource(seed))
		h := randomHeld(r, 2, r.Intn(25))
		time := uint64(0)
		if len(h.l) > 0 {
			time = uint64(r.Intn(int(h.clock()) + 1))
		}
		peers := []*peer{part(t, r, h, 0, time, r.Intn(2) == 0), part(t, r, h, 1, time, r.Intn(2) == 0)}
		all := joined(peers[0].have(), peers[1].have())
		had := [][]uint64{peers[0].have(), peers[1].have()}
		check := func() {
			for i, p := range peers {
				if !within(had[i], p.s.Have()) || !within(p.s.Have(), all) {
					t.Fatalf("seed %d: %d had %v, has %v, both have %v", seed, i, had[i], p.s.Have(), all)
				}
				had[i] = p.s.Have()
				wantStored(t, p, h)
			}
		}
		for range r.Intn(3) {
			n := r.Intn(2)
			lossy(t, r, peers, check, peers[n].begin(t, 1-n))
		}
		n := r.Intn(2)
		run(t, peers, peers[n].begin(t, 1-n))
		check()
		if !slices.Equal(had[0], all) {
			t.Fatalf("seed %d: they have %v, want %v", seed, had[0], all)
		}
		alike(t, fmt.Sprintf("seed %d", seed), peers[0], peers[1])
		knowEachOther(t, peers)
	}
}

// knowEachOther checks that two replicas know what both have.
func knowEachOther(t *testing.T, peers []*peer) {
	t.Helper()
	for _, p := range peers {
		for n := range 2 {
			if got, want := p.m.Row(n), peers[n].s; !slices.Equal(got.Have, want.Have()) || got.Time != want.Clock() {
				t.Fatalf("%d knows of %d %v@%d, want %v@%d", p.node, n, got.Have, got.Time, want.Have(), want.Clock())
			}
		}
	}
}

// wantStored checks that what a store has is a part of a history.
func wantStored(t *testing.T, p *peer, h held) {
	t.Helper()
	base, floor, have := fold.New(h.nodes), p.s.Floor(), p.s.Have()
	lists := p.s.Lists()
	for _, e := range h.l {
		switch {
		case e.Seq <= floor.Get(e.Writer):
			wantError(t, "Apply", base.Apply(e), api.OK)
		case e.Seq <= have.Get(e.Writer):
			if l := lists[e.Writer]; len(l) == 0 || !sameEvent(l[0], e) {
				t.Fatalf("the first event of %d is %.100s, want %.100s", e.Writer, fmt.Sprint(l), fmt.Sprint(e))
			}
			lists[e.Writer] = lists[e.Writer][1:]
		}
	}
	if string(base.Encode()) != string(p.s.Base().Encode()) {
		t.Fatalf("the fold of %v is another one", floor)
	}
}

// cluster is some replicas, of which the last one joins late.
type cluster struct {
	r     *rand.Rand
	peers []*peer
	all   held // all events, in order
	runs  uint64
}

const late = 3 // the node that joins late

func newCluster(t *testing.T, r *rand.Rand) *cluster {
	t.Helper()
	c := &cluster{r: r, all: held{nodes: late}}
	for node := range late + 1 {
		c.peers = append(c.peers, c.all.open(t, settings{node: node, from: c.number(), batch: 1 + r.Intn(4), chunk: 1 + r.Intn(60)}))
	}
	return c
}

// number returns behind which number the exchanges of a replica follow that is opened next.
func (c *cluster) number() uint64 {
	c.runs++
	return c.runs << 32
}

// write writes an event, if the replica may.
func (c *cluster) write(p *peer) {
	e := listed("0.1@1")[0]
	switch {
	case p.node == 0 && !p.s.Joined(late) && c.r.Intn(5) == 0:
		e = api.Event{Kind: api.Join, Node: late}
	case p.node == 1 && p.s.Joined(late) && c.r.Intn(30) == 0:
		e = api.Event{Kind: api.Retire}
	}
	if e, wrong := p.s.Write(e); wrong == api.OK {
		c.all.l = append(c.all.l, e)
		slices.SortFunc(c.all.l, func(a, b api.Event) int {
			if a.Time != b.Time {
				return int(int64(a.Time - b.Time))
			}
			return a.Writer - b.Writer
		})
	}
}

// truncate folds what is stable, as far as a replica knows.
func (c *cluster) truncate(t *testing.T, p *peer) {
	t.Helper()
	talk.Note(p.s, p.m)
	bound := p.m.Bound(p.s.Members(), matrix.Known{Floor: p.s.Floor(), Lists: p.s.Lists()})
	if bound = min(bound, p.s.Clock()); bound >= p.s.Time() {
		wantError(t, "Truncate", p.s.Truncate(bound), api.OK)
	}
}

// crash opens a replica again, which has forgotten what was not stored.
func (c *cluster) crash(t *testing.T, p *peer) {
	t.Helper()
	p.d.Crash(0)
	s, e := store.Open(p.d, p.node, late, segment)
	wantError(t, "Open", e, api.OK)
	p.s, p.m, p.t = s, matrix.New(), talk.New(c.number(), p.batch, p.chunk)
}

// TestCluster: replicas that write, fold what is stable, crash, retire and join late, over a network that loses, doubles and
// disorders letters. None ever has what was not written, or lacks what it had; each exchange in which nothing is lost makes two
// alike, and two rounds of them all.
func TestCluster(t *testing.T) {
	folded := 0
	for seed := range int64(150) {
		c := newCluster(t, rand.New(rand.NewSource(seed)))
		for range 60 {
			c.step(t)
		}
		for range 2 {
			for a := range c.peers {
				for b := range c.peers {
					if a != b {
						run(t, c.peers, c.peers[a].begin(t, b))
						alike(t, fmt.Sprintf("seed %d", seed), c.peers[a], c.peers[b])
					}
				}
			}
		}
		for _, p := range c.peers {
			alike(t, fmt.Sprintf("seed %d", seed), c.peers[0], p)
			if !slices.Equal(p.s.Have(), c.all.have()) {
				t.Fatalf("seed %d: %d has %v, want %v", seed, p.node, p.s.Have(), c.all.have())
			}
		}
		if len(c.peers[late].s.Floor()) > 0 {
			folded++
		}
	}
	if folded < 40 {
		t.Errorf("only %d of the late ones got a fold", folded)
	}
}

func (c *cluster) step(t *testing.T) {
	t.Helper()
	a := c.r.Intn(len(c.peers))
	b := (a + 1 + c.r.Intn(late)) % len(c.peers)
	p := c.peers[a]
	check := func() {
		for _, p := range c.peers {
			wantStored(t, p, c.all)
		}
	}
	switch k := c.r.Intn(20); {
	case k < 8:
		c.write(p)
	case k < 11:
		lossy(t, c.r, c.peers, check, p.begin(t, b))
	case k < 13:
		lossy(t, c.r, c.peers, check, p.begin(t, b), c.peers[b].begin(t, a), p.begin(t, b))
	case k < 17:
		run(t, c.peers, p.begin(t, b))
		alike(t, "an exchange", p, c.peers[b])
	case k < 19:
		c.truncate(t, p)
	default:
		c.crash(t, p)
	}
	check()
}

package talk_test

import (
	"fmt"
	"math/rand"
	"slices"
	"testing"

	"anabranch/api"
	"anabranch/disk"
	"anabranch/letter"
	"anabranch/matrix"
	"anabranch/store"
	"anabranch/talk"
)

// shadow is a model of a replica: it does by itself what P17.1 to P17.4 say, with a store and a matrix of its own, which must
// be told all that the replica's are told.
type shadow struct {
	node, batch, chunk int
	s                  *store.Store
	m                  *matrix.Matrix
	serial             uint64
	begun, heard       map[int]uint64
	offer              *letter.Letter // whose chunks are expected
	got                []byte
}

func newShadow(t *testing.T, node, nodes, batch, chunk int, from uint64) *shadow {
	t.Helper()
	s, e := store.Open(disk.New(wide), node, nodes, segment)
	wantError(t, "Open", e, api.OK)
	return &shadow{node: node, batch: batch, chunk: chunk, s: s, m: matrix.New(), serial: from, begun: map[int]uint64{}, heard: map[int]uint64{}}
}

func (w *shadow) report(kind byte) letter.Letter {
	w.m.Raise(api.Row{Node: w.node, Have: w.s.Have(), Time: w.s.Clock()})
	return letter.Letter{Kind: kind, Have: w.s.Have(), Rows: w.m.Rows()}
}

func (w *shadow) begin(to int) letter.Letter {
	w.serial++
	w.begun[to] = w.serial
	x := w.report(letter.Hello)
	x.From, x.To, x.Mine, x.Serial = w.node, to, true, w.serial
	return x
}

func (w *shadow) hear(x letter.Letter) ([]letter.Letter, api.Errno) {
	if x.To != w.node || x.From == w.node || x.From < 0 || x.From > 63 {
		return nil, api.ErrArg
	}
	last, known := w.begun[x.From]
	if x.Mine && x.Serial < w.heard[x.From] || !x.Mine && (!known || x.Serial != last) {
		return nil, api.ErrOld
	}
	l, e := w.act(x)
	if x.Mine && e == api.OK {
		w.heard[x.From] = x.Serial
	}
	for i := range l {
		l[i].From, l[i].To, l[i].Mine, l[i].Serial = w.node, x.From, !x.Mine, x.Serial
	}
	return l, e
}

func (w *shadow) act(x letter.Letter) ([]letter.Letter, api.Errno) {
	if x.Kind == letter.Hello && !x.Mine || x.Kind == letter.Summary && x.Mine || x.Kind == 0 || x.Kind > letter.Abort {
		return nil, api.ErrArg
	}
	var l []letter.Letter
	switch x.Kind {
	case letter.Hello, letter.Summary, letter.Ack:
		for _, r := range x.Rows {
			w.m.Raise(r)
		}
		if x.Kind == letter.Hello {
			l = append(l, w.report(letter.Summary))
		}
		if x.Kind != letter.Ack {
			l = append(l, contentOf(w.s).lacks(x.Have, w.batch, w.chunk)...)
		}
	case letter.Batch:
		n, e := w.s.Put(x.Have, x.Events)
		return w.told(e, e == api.OK && n == 0 && len(x.Events) > 0)
	case letter.Offer:
		if within(x.Have, w.s.Have()) {
			return nil, api.ErrOld
		}
		w.offer, w.got = &x, nil
	case letter.Chunk:
		return w.receive(x)
	case letter.Abort:
		w.offer, w.got = nil, nil
	}
	return l, api.OK
}

func (w *shadow) receive(x letter.Letter) ([]letter.Letter, api.Errno) {
	o := w.offer
	if o == nil || o.From != x.From || o.Serial != x.Serial || o.Mine != x.Mine || o.Size != x.Size || x.At != uint64(len(w.got)) ||
		len(w.got)+len(x.Bytes) > int(x.Size) {
		return nil, api.ErrOld
	}
	w.got = append(w.got, x.Bytes...)
	if len(w.got) < int(x.Size) {
		return nil, api.OK
	}
	p := w.got
	w.offer, w.got = nil, nil
	if sum(p) != o.Sum {
		return w.told(api.ErrForm, false)
	}
	return w.told(w.s.Install(p, o.Time), false)
}

// told returns an Ack or an Abort, and with an Ack ErrOld if nothing was new.
func (w *shadow) told(e api.Errno, old bool) ([]letter.Letter, api.Errno) {
	if e != api.OK {
		return []letter.Letter{abort(e)}, e
	}
	if old {
		e = api.ErrOld
	}
	return []letter.Letter{w.report(letter.Ack)}, e
}

// contentOf returns what a store sends from.
func contentOf(s *store.Store) content {
	rest := slices.Concat(s.Lists()...)
	slices.SortFunc(rest, func(a, b api.Event) int {
		if a.Time != b.Time {
			return int(int64(a.Time - b.Time))
		}
		return a.Writer - b.Writer
	})
	return content{floor: s.Floor(), time: s.Time(), base: s.Base().Encode(), rest: rest}
}

// twins are replicas, each with its model, and the letters that are under way among them.
type twins struct {
	r     *rand.Rand
	peers []*peer
	w     []*shadow
	net   []letter.Letter
}

func newTwins(t *testing.T, r *rand.Rand) *twins {
	t.Helper()
	x := &twins{r: r}
	for node := range 3 {
		c := settings{node: node, from: uint64(r.Intn(4)), batch: 1 + r.Intn(4), chunk: 1 + r.Intn(60)}
		x.peers = append(x.peers, held{nodes: 3}.open(t, c))
		x.w = append(x.w, newShadow(t, node, 3, c.batch, c.chunk, c.from))
	}
	return x
}

// step does one thing at a replica and at its model, and compares them.
func (x *twins) step(t *testing.T) {
	t.Helper()
	n := x.r.Intn(len(x.peers))
	p, w := x.peers[n], x.w[n]
	switch k := x.r.Intn(20); {
	case k < 3:
		p.s.Write(listed("0.1@1")[0])
		w.s.Write(listed("0.1@1")[0])
	case k == 3 && x.r.Intn(2) == 0:
		time := p.s.Time() + uint64(x.r.Intn(int(p.s.Clock()-p.s.Time())+1))
		wantError(t, "Truncate", p.s.Truncate(time), w.s.Truncate(time))
	case k < 7:
		to := (n + 1 + x.r.Intn(2)) % 3
		h := p.begin(t, to)
		wantLetters(t, "Begin", []letter.Letter{h}, []letter.Letter{w.begin(to)})
		x.net = append(x.net, h)
	case len(x.net) > 0:
		x.deliver(t)
	}
}

// deliver lets a letter that is under way be heard, as it is or changed, once or again later.
func (x *twins) deliver(t *testing.T) {
	t.Helper()
	i := x.r.Intn(min(len(x.net), 1+x.r.Intn(6)))
	y := x.net[i]
	if x.r.Intn(8) > 0 {
		x.net = slices.Delete(x.net, i, i+1)
	}
	if x.r.Intn(5) == 0 {
		y = x.changed(y)
	}
	n := y.To
	if n < 0 || n >= len(x.peers) || x.r.Intn(30) == 0 {
		n = x.r.Intn(len(x.peers))
	}
	p, w := x.peers[n], x.w[n]
	l, e := p.t.Hear(p.s, p.m, y)
	want, wrong := w.hear(y)
	wantError(t, fmt.Sprintf("node %d: Hear(%s)", n, brief(y)), e, wrong)
	wantLetters(t, fmt.Sprintf("node %d: Hear(%s)", n, brief(y)), l, want)
	p.wantComing(t, "a letter was heard", len(w.got))
	p.wantSerial(t, w.serial)
	if !slices.EqualFunc(p.m.Rows(), w.m.Rows(), sameRow) || fmt.Sprint(p.s.Have(), p.s.Time(), p.s.Clock()) != fmt.Sprint(w.s.Have(), w.s.Time(), w.s.Clock()) {
		t.Fatalf("after Hear(%s): %v, %s, want %v, %s", brief(y), p.s.Have(), known(p.m), w.s.Have(), known(w.m))
	}
	x.net = append(x.net, l...)
}

// changed returns a letter of which something is different.
func (x *twins) changed(y letter.Letter) letter.Letter {
	n := x.r.Intn(3)
	switch x.r.Intn(11) {
	case 0:
		y.Kind = byte(x.r.Intn(9))
	case 1:
		y.From = x.r.Intn(5) - 1
	case 2:
		y.To = x.r.Intn(5) - 1
	case 3:
		y.Mine = !y.Mine
	case 4:
		y.Serial += uint64(n - 1)
	case 5:
		y.Have = joined(y.Have, make([]uint64, n))[:min(len(y.Have), n)]
	case 6:
		y.Events = y.Events[min(n, len(y.Events)):]
	case 7:
		y.Size, y.Sum = y.Size+uint64(n-1), y.Sum+uint32(n)
	case 8:
		y.At += uint64(n - 1)
	case 9:
		y.Bytes = y.Bytes[:min(n, len(y.Bytes))]
	case 10:
		y.Time += uint64(n)
	}
	return y
}

// TestRandomLetters: replicas whose letters are lost, doubled, changed and in any order do what the model does. They also fold
// events before others have them, so that there is every error of the store.
func TestRandomLetters(t *testing.T) {
	for seed := range int64(200) {
		x := newTwins(t, rand.New(rand.NewSource(seed)))
		for range 250 {
			x.step(t)
			if len(x.net) > 40 {
				x.net = x.net[x.r.Intn(20):]
			}
		}
	}
}

// TestRandomTalks is the same with letters that arrive as they are, in order.
func TestRandomTalks(t *testing.T) {
	for seed := range int64(30) {
		x := newTwins(t, rand.New(rand.NewSource(seed)))
		for range 40 {
			x.step(t)
			for len(x.net) > 0 {
				y := x.net[0]
				x.net = x.net[1:]
				p, w := x.peers[y.To], x.w[y.To]
				l, e := p.t.Hear(p.s, p.m, y)
				want, wrong := w.hear(y)
				wantError(t, brief(y), e, wrong)
				wantLetters(t, brief(y), l, want)
				x.net = append(x.net, l...)
			}
		}
	}
}

// TestSerialOfAnother is P17.4: what is counted is of this object alone.
func TestSerialOfAnother(t *testing.T) {
	a, b := talk.New(5, 1, 1), talk.New(9, 1, 1)
	p := simple(t, "", 0)
	p.t = a
	p.begin(t, 1)
	p.begin(t, 2)
	if a.Serial() != 7 || b.Serial() != 9 {
		t.Errorf("the serials are %d and %d", a.Serial(), b.Serial())
	}
	p.hear(t, "an Offer", p.to(1, 1, sent().offer()), api.OK)
	p.hear(t, "a Chunk", p.to(1, 1, sent().chunks(9)[0]), api.OK)
	if a.Coming() != 9 || b.Coming() != 0 {
		t.Errorf("%d and %d bytes have come", a.Coming(), b.Coming())
	}
}

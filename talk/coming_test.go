package talk_test

import (
	"fmt"
	"math"
	"slices"
	"testing"

	"anabranch/api"
	"anabranch/fold"
	"anabranch/letter"
	"anabranch/matrix"
)

// The tests of P17.3 and P17.4 for folds.

// sent is what another replica holds, of which the events up to time 4 are folded.
func sent() held {
	return held{nodes: 3, l: listed("0.1@1 1.1@2 0.2@3 2.1@4 1.2@6"), time: 4}
}

// alone returns a replica that has begun an exchange and heard of one, but has no events.
func alone(t *testing.T) *peer {
	t.Helper()
	p := busy(t, "", 0)
	p.m = matrix.New()
	return p
}

// wantComing checks how many bytes have been received.
func (p *peer) wantComing(t *testing.T, what string, want int) {
	t.Helper()
	if got := p.t.Coming(); got != want {
		t.Fatalf("%s: Coming() = %d, want %d", what, got, want)
	}
}

// gone checks that no chunks are expected any more, and lets a whole fold come in all the same.
func (p *peer) gone(t *testing.T, what string, chunks []letter.Letter) {
	t.Helper()
	p.wantComing(t, what, 0)
	for _, x := range chunks {
		p.refuse(t, what, x, api.ErrOld)
	}
}

// after checks that a fold of these events, up to a time, is all that a replica has.
func (p *peer) after(t *testing.T, what string, h held, time uint64) {
	t.Helper()
	h = held{nodes: h.nodes, l: h.l[:h.folded()], time: time}
	if !slices.Equal(p.s.Have(), h.have()) || !slices.Equal(p.s.Floor(), h.have()) || p.s.Time() != time || string(p.s.Base().Encode()) != string(h.encoded()) {
		t.Fatalf("%s: the store has %v, floor %v, time %d", what, p.s.Have(), p.s.Floor(), p.s.Time())
	}
}

// addressed returns letters as they are for a busy replica, in one of its two exchanges.
func (p *peer) addressed(i int, l ...letter.Letter) []letter.Letter {
	var out []letter.Letter
	for _, x := range l {
		out = append(out, p.both(x)[i])
	}
	return out
}

// installed is the Ack of a replica of node 0 that had no events, when what sent has folded has come.
func installed() letter.Letter {
	return letter.Letter{Kind: letter.Ack, Have: []uint64{2, 1, 1}, Rows: []api.Row{{Node: 0, Have: []uint64{2, 1, 1}, Time: 4}}}
}

// TestFoldComes: an Offer, its Chunks one by one, and what is there after the last one.
func TestFoldComes(t *testing.T) {
	h := sent()
	size := len(h.encoded())
	for _, chunk := range []int{1, 2, 7, size/2 + 1, size - 1, size, size + 1} {
		for i := range 2 {
			p := alone(t)
			l := p.addressed(i, append([]letter.Letter{h.offer()}, h.chunks(chunk)...)...)
			p.wantComing(t, "before the Offer", 0)
			p.hear(t, "the Offer", l[0], api.OK)
			p.wantComing(t, "after the Offer", 0)
			end := len(l) - 1
			for j, x := range l[1:end] {
				p.hear(t, "a Chunk", x, api.OK)
				p.wantComing(t, "after a Chunk", (j+1)*chunk)
				if len(p.s.Have()) > 0 || p.s.Time() > 0 || len(p.m.Rows()) > 0 {
					t.Fatalf("after %d of %d Chunks the replica has %v", j+1, end, p.s.Have())
				}
			}
			p.hear(t, "the last Chunk", l[end], api.OK, installed())
			p.after(t, "the fold has come", h, 4)
			p.gone(t, "the fold has come", l[1:])
			p.refuse(t, "again", l[0], api.ErrOld)
			p.hear(t, "what follows", p.both(h.lacks(nil, 9, 9)[len(h.lacks(nil, 9, 9))-1])[i], api.OK,
				letter.Letter{Kind: letter.Ack, Have: []uint64{2, 2, 1}, Rows: []api.Row{{Node: 0, Have: []uint64{2, 2, 1}, Time: 6}}})
		}
	}
}

// TestFoldComesToEvents: those that the fold has are folded, those behind it stay.
func TestFoldComesToEvents(t *testing.T) {
	h := sent()
	p := busy(t, "0.1@1 1.1@2 1.2@6", 1)
	p.m = matrix.New()
	for _, x := range p.addressed(0, append([]letter.Letter{h.offer()}, h.chunks(20)...)...) {
		p.wantAnswer(t, "", x, api.OK)
	}
	if !slices.Equal(p.s.Have(), []uint64{2, 2, 1}) || !slices.Equal(p.s.Floor(), []uint64{2, 1, 1}) || p.s.Time() != 4 || known(p.m) != "0[2 2 1]@6" {
		t.Errorf("the store has %v, floor %v, time %d; %s is known", p.s.Have(), p.s.Floor(), p.s.Time(), known(p.m))
	}
}

// TestOfferedTime: the time of the fold is that of the Offer, which may be after its last event.
func TestOfferedTime(t *testing.T) {
	for _, time := range []uint64{4, 5, 1000, api.End} {
		h := sent()
		p := alone(t)
		offer := h.offer()
		offer.Time = time
		for _, x := range p.addressed(1, append([]letter.Letter{offer}, h.chunks(200)...)...) {
			p.wantAnswer(t, "", x, api.OK)
		}
		p.after(t, "the fold has come", h, time)
	}
}

// TestOfferNews: what is new in an Offer, and what is not.
func TestOfferNews(t *testing.T) {
	for _, c := range []struct {
		have []uint64
		want api.Errno
	}{
		{nil, api.ErrOld}, {[]uint64{0, 0, 0, 0}, api.ErrOld}, {[]uint64{1}, api.ErrOld}, {[]uint64{2, 1}, api.ErrOld}, {[]uint64{2, 1, 0}, api.ErrOld},
		{[]uint64{3}, api.OK}, {[]uint64{0, 2}, api.OK}, {[]uint64{2, 1, 1}, api.OK}, {[]uint64{3, 1}, api.OK}, {[]uint64{0, 0, 0, 1}, api.OK},
		{[]uint64{api.End, api.End}, api.OK},
	} {
		for i := range 2 {
			for _, time := range []uint64{0, 2} {
				p := busy(t, "0.1@1 1.1@2 0.2@3", time)
				x := p.addressed(i, letter.Letter{Kind: letter.Offer, Have: c.have, Time: 9, Size: 8, Sum: 7})[0]
				chunk := p.addressed(i, letter.Letter{Kind: letter.Chunk, Size: 8, Bytes: []byte("hi")})[0]
				p.refuse(t, "before an Offer", chunk, api.ErrOld)
				if c.want != api.OK {
					p.refuse(t, "nothing new", x, c.want)
					p.gone(t, "nothing new", []letter.Letter{chunk})
					continue
				}
				p.hear(t, "something new", x, api.OK)
				p.wantComing(t, "something new", 0)
				p.hear(t, "its chunk", chunk, api.OK)
				p.wantComing(t, "its chunk", 2)
			}
		}
	}
}

// half lets a replica hear an Offer and the first Chunk of some, and returns all Chunks.
func (p *peer) half(t *testing.T, i int, h held, chunk int) []letter.Letter {
	t.Helper()
	l := p.addressed(i, append([]letter.Letter{h.offer()}, h.chunks(chunk)...)...)
	p.hear(t, "the Offer", l[0], api.OK)
	p.hear(t, "the first Chunk", l[1], api.OK)
	p.wantComing(t, "the first Chunk", chunk)
	return l[1:]
}

// finish lets a replica hear the Chunks but for the first one.
func (p *peer) finish(t *testing.T, chunks []letter.Letter) {
	t.Helper()
	end := len(chunks) - 1
	for _, x := range chunks[1:end] {
		p.hear(t, "a Chunk", x, api.OK)
	}
	p.hear(t, "the last Chunk", chunks[end], api.OK, installed())
	p.after(t, "the fold has come", sent(), 4)
}

// TestOtherChunks: only the next bytes of the fold are received; others change nothing.
func TestOtherChunks(t *testing.T) {
	const chunk = 20
	h := sent()
	left := len(h.encoded()) - chunk
	for i := range 2 {
		for what, change := range map[string]func(x *letter.Letter){
			"the one before":                   func(x *letter.Letter) { x.At, x.Bytes = 0, h.encoded()[:chunk] },
			"a place too far":                  func(x *letter.Letter) { x.At++ },
			"a place too near":                 func(x *letter.Letter) { x.At-- },
			"no place":                         func(x *letter.Letter) { x.At = 0 },
			"a place behind all":               func(x *letter.Letter) { x.At = math.MaxUint64 },
			"a place that wraps":               func(x *letter.Letter) { x.At += 1 << 32 },
			"nothing, at another place":        func(x *letter.Letter) { x.At++; x.Bytes = nil },
			"a smaller size":                   func(x *letter.Letter) { x.Size-- },
			"a larger size":                    func(x *letter.Letter) { x.Size++ },
			"no size":                          func(x *letter.Letter) { x.Size = 0 },
			"a byte too many":                  func(x *letter.Letter) { x.Bytes = make([]byte, left+1) },
			"many too many":                    func(x *letter.Letter) { x.Bytes = make([]byte, 1<<20) },
			"another node":                     func(x *letter.Letter) { x.From = 2 },
			"another serial":                   func(x *letter.Letter) { x.Serial++ },
			"an earlier serial":                func(x *letter.Letter) { x.Serial-- },
			"the other exchange with the node": func(x *letter.Letter) { x.Mine = !x.Mine },
		} {
			p := alone(t)
			p.hear(t, "the same serial", p.to(1, begun, letter.Letter{Kind: letter.Ack}), api.OK) // so that Mine alone makes the difference
			l := p.addressed(i, append([]letter.Letter{h.offer()}, h.chunks(chunk)...)...)
			for j := range l {
				l[j].Serial = begun
			}
			p.hear(t, "the Offer", l[0], api.OK)
			p.hear(t, "the first Chunk", l[1], api.OK)
			x := l[2]
			change(&x)
			p.refuse(t, what, x, api.ErrOld)
			p.wantComing(t, what, chunk)
			p.finish(t, l[1:])
		}
	}
}

// TestChunksOutOfOrder: each Chunk is received in its turn only, and once.
func TestChunksOutOfOrder(t *testing.T) {
	p := alone(t)
	l := p.half(t, 0, sent(), 9)
	for j := 1; j < len(l)-1; j++ {
		for k, x := range l {
			if k != j {
				p.refuse(t, fmt.Sprintf("%d instead of %d", k, j), x, api.ErrOld)
			}
		}
		p.hear(t, "the next one", l[j], api.OK)
		p.wantComing(t, "the next one", (j+1)*9)
	}
	p.hear(t, "the last one", l[len(l)-1], api.OK, installed())
	p.gone(t, "after the last one", l)
}

// TestChunksOfAnySize: they need not be alike, and may be empty.
func TestChunksOfAnySize(t *testing.T) {
	h := sent()
	p := alone(t)
	all := h.encoded()
	p.hear(t, "the Offer", p.both(h.offer())[0], api.OK)
	at := 0
	for _, n := range []int{0, 1, 0, 0, 30, 2, 0} {
		x := letter.Letter{Kind: letter.Chunk, Size: uint64(len(all)), At: uint64(at), Bytes: all[at : at+n]}
		p.hear(t, "a Chunk", p.both(x)[0], api.OK)
		at += n
		p.wantComing(t, "a Chunk", at)
	}
	x := letter.Letter{Kind: letter.Chunk, Size: uint64(len(all)), At: uint64(at), Bytes: all[at:]}
	p.hear(t, "the rest", p.both(x)[0], api.OK, installed())
	x.At, x.Bytes = x.Size, nil
	p.refuse(t, "nothing behind the end", p.both(x)[0], api.ErrOld)
}

// TestNothingElseMatters: other letters in the midst of Chunks do not disturb them.
func TestNothingElseMatters(t *testing.T) {
	h := sent()
	p := alone(t)
	l := p.half(t, 0, h, 20)
	p.wantAnswer(t, "", p.to(2, 7, letter.Letter{Kind: letter.Hello}), api.OK)
	p.wantAnswer(t, "", p.both(letter.Letter{Kind: letter.Summary})[1], api.OK)
	p.wantAnswer(t, "", p.both(letter.Letter{Kind: letter.Ack})[0], api.OK)
	p.wantAnswer(t, "", p.both(letter.Letter{Kind: letter.Batch})[0], api.OK)
	p.refuse(t, "an Offer with nothing new", p.both(letter.Letter{Kind: letter.Offer, Size: 9})[0], api.ErrOld)
	p.refuse(t, "a late Offer", p.to(1, heard-1, h.offer()), api.ErrOld)
	p.refuse(t, "a late Abort", p.to(1, heard-1, abort(api.ErrGap)), api.ErrOld)
	other := p.both(abort(api.ErrGap))[1]
	other.Serial--
	p.refuse(t, "an Abort of another exchange", other, api.ErrOld)
	other.To = 2
	p.refuse(t, "an Abort for another node", other, api.ErrArg)
	p.begin(t, 2)
	p.wantComing(t, "after other letters", 20)
	p.m = matrix.New()
	p.finish(t, l)
}

// TestOfferAgain: the Chunks of the last Offer are expected, from the first one on, and no others.
func TestOfferAgain(t *testing.T) {
	h := sent()
	p := alone(t)
	l := p.half(t, 0, h, 20)
	p.hear(t, "the Offer again", p.both(h.offer())[0], api.OK)
	p.wantComing(t, "the Offer again", 0)
	p.refuse(t, "the second Chunk", l[1], api.ErrOld)
	p.hear(t, "the first Chunk", l[0], api.OK)
	p.finish(t, l)

	less := held{nodes: 3, l: h.l, time: 2}
	for name, other := range map[string]letter.Letter{
		"of another node": p.to(2, 9, less.offer()), "of the other exchange": p.both(less.offer())[1], "of a later exchange": p.to(1, heard+1, less.offer()),
		"of the same exchange": p.both(less.offer())[0],
	} {
		p := alone(t)
		l := p.half(t, 0, h, 20)
		p.hear(t, "another Offer", other, api.OK)
		p.wantComing(t, "another Offer", 0)
		for _, x := range l {
			p.refuse(t, "a Chunk of the first Offer, after one "+name, x, api.ErrOld)
		}
		chunk := less.chunks(100)[0]
		chunk.From, chunk.Mine, chunk.Serial = other.From, other.Mine, other.Serial
		p.wantAnswer(t, "the Chunk of an Offer "+name, chunk, api.OK)
		p.after(t, "the other fold has come", less, 2)
	}
}

// TestSumIsDifferent: a fold of other bytes than those that were offered is refused, and given up.
func TestSumIsDifferent(t *testing.T) {
	h := sent()
	for i := range 2 {
		rest := h.encoded()[20:]
		for bit := range 8 * len(rest) {
			p := alone(t)
			l := p.half(t, i, h, 20)
			x := l[1]
			x.Bytes = slices.Clone(rest)
			x.Bytes[bit/8] ^= 1 << (bit % 8)
			before := p.s.Files()
			p.hear(t, "another byte", x, api.ErrForm, abort(api.ErrForm))
			p.gone(t, "another byte", append(l, x))
			if len(p.s.Have()) > 0 || p.s.Time() > 0 || len(p.m.Rows()) > 0 || !slices.Equal(p.s.Files(), before) {
				t.Fatalf("the store has %v", p.s.Have())
			}
		}
	}
	for _, wrong := range []uint32{1, 1 << 31, math.MaxUint32} {
		p := alone(t)
		offer, chunk := h.offer(), h.chunks(1000)[0]
		offer.Sum ^= wrong
		p.hear(t, "another sum", p.both(offer)[0], api.OK)
		p.hear(t, "all bytes", p.both(chunk)[0], api.ErrForm, abort(api.ErrForm))
		p.gone(t, "another sum", p.addressed(0, chunk))
		p.hear(t, "the right sum", p.both(h.offer())[0], api.OK)
		p.hear(t, "all bytes", p.both(chunk)[0], api.OK, installed())
	}
}

// offered returns an Offer of some bytes, at a time, and the Chunk with all of them.
func offered(p []byte, time uint64) []letter.Letter {
	return []letter.Letter{
		{Kind: letter.Offer, Have: []uint64{0, 0, 0, 1}, Time: time, Size: uint64(len(p)), Sum: sum(p)},
		{Kind: letter.Chunk, Size: uint64(len(p)), Bytes: p},
	}
}

// TestInstallRefused: what store.Install says is told, and the fold is given up.
func TestInstallRefused(t *testing.T) {
	fine := sent().encoded()
	for _, c := range []struct {
		what string
		p    []byte
		time uint64
		want api.Errno
	}{
		{"nothing", nil, 4, api.ErrForm},
		{"no fold", []byte("hello"), 4, api.ErrForm},
		{"not all of a fold", fine[:len(fine)-1], 4, api.ErrForm},
		{"more than a fold", append(slices.Clip(fine), 0), 4, api.ErrForm},
		{"a fold without events", fold.New(3).Encode(), 4, api.ErrOld},
		{"a fold of events that are there", held{nodes: 3, l: listed("0.1@1 1.1@2"), time: 2}.encoded(), 4, api.ErrOld},
		{"a time before the last event of the fold", fine, 3, api.ErrArg},
		{"a time before that of the store", held{nodes: 3, l: listed("0.1@1 1.1@2 2.1@2"), time: 2}.encoded(), 0, api.ErrArg},
		{"a fold without what the store has folded", held{nodes: 3, l: listed("1.1@2 2.1@3"), time: 3}.encoded(), 4, api.ErrArg},
		{"an event of the store that is before that time", fine, 5, api.ErrArg},
		{"a fold that may come", fine, 4, api.OK},
	} {
		for i := range 2 {
			p := busy(t, "0.1@1 1.1@2 1.2@5", 1)
			l := p.addressed(i, offered(c.p, c.time)...)
			p.hear(t, c.what, l[0], api.OK)
			before := p.s.Have()
			if c.want == api.OK {
				p.wantAnswer(t, c.what, l[1], api.OK)
				continue
			}
			p.hear(t, c.what, l[1], c.want, abort(c.want))
			p.gone(t, c.what, l[1:])
			if !slices.Equal(p.s.Have(), before) {
				t.Errorf("%s: the store has %v", c.what, p.s.Have())
			}
		}
	}
}

// TestEventsComeFirst: when all events of a fold have come one by one, there is nothing to install.
func TestEventsComeFirst(t *testing.T) {
	h := sent()
	p := alone(t)
	l := p.half(t, 0, h, len(h.encoded())-1)
	p.wantAnswer(t, "the events", p.events(2, 3, nil, h.l...), api.OK)
	p.hear(t, "the last Chunk", l[1], api.ErrOld, abort(api.ErrOld))
	p.gone(t, "nothing to install", l)
	if !slices.Equal(p.s.Have(), h.have()) || p.s.Time() != 0 {
		t.Errorf("the store has %v, time %d", p.s.Have(), p.s.Time())
	}
}

// TestInstallWithoutRoom: the sender is told that the disk is full; that it has stopped it is not told.
func TestInstallWithoutRoom(t *testing.T) {
	h := sent()
	p := alone(t)
	l := p.half(t, 1, h, 20)
	p.d.Widen(0)
	end := len(l) - 1
	for _, x := range l[1:end] {
		p.hear(t, "a Chunk", x, api.OK)
	}
	before := p.s.Files()
	p.hear(t, "without room", l[end], api.ErrFull, abort(api.ErrFull))
	p.gone(t, "without room", l)
	if len(p.s.Have()) > 0 || !slices.Equal(p.s.Files(), before) {
		t.Errorf("the store has %v, files %v", p.s.Have(), p.s.Files())
	}
	p.d.Widen(wide)
	p.gone(t, "with room again", l)
	l = p.half(t, 1, h, 20)
	p.finish(t, l)

	p = alone(t)
	l = p.half(t, 1, h, len(h.encoded())-1)
	p.d.Arm(0, 0)
	p.hear(t, "the disk stops", l[1], api.ErrStop)
}

// TestAbort: after it, no Chunks are expected, whatever it says and whoever sends it in an exchange that goes on.
func TestAbort(t *testing.T) {
	h := sent()
	for _, why := range []api.Errno{api.OK, api.ErrArg, api.ErrGap, 65536} {
		for i := range 2 {
			p := alone(t)
			x := abort(why)
			for _, stop := range []letter.Letter{p.both(x)[0], p.both(x)[1], p.to(2, 1, x)} {
				p := alone(t)
				p.hear(t, "an Abort before anything", stop, api.OK)
				l := p.half(t, i, h, 20)
				before := p.s.Files()
				p.hear(t, "an Abort in the midst of Chunks", stop, api.OK)
				p.gone(t, "after an Abort", l)
				if len(p.s.Have()) > 0 || len(p.m.Rows()) > 0 || !slices.Equal(p.s.Files(), before) {
					t.Errorf("after an Abort the store has %v", p.s.Have())
				}
				p.hear(t, "another Abort", stop, api.OK)
				p.finish(t, p.half(t, i, h, 20))
			}
			l := p.addressed(i, h.offer(), h.chunks(20)[0])
			p.hear(t, "an Offer", l[0], api.OK)
			p.hear(t, "an Abort before a Chunk", p.both(x)[i], api.OK)
			p.gone(t, "an Abort before a Chunk", l[1:])
		}
	}
}

// TestSizes: an Offer may be of nothing, or of more bytes than there could be.
func TestSizes(t *testing.T) {
	p := alone(t)
	offer := letter.Letter{Kind: letter.Offer, Have: []uint64{9}, Time: 9}
	chunk := letter.Letter{Kind: letter.Chunk}
	p.hear(t, "an Offer of nothing", p.both(offer)[0], api.OK)
	chunk.Bytes = []byte("x")
	p.refuse(t, "a byte of nothing", p.both(chunk)[0], api.ErrOld)
	chunk.Bytes = nil
	p.hear(t, "all of nothing", p.both(chunk)[0], api.ErrForm, abort(api.ErrForm))
	p.gone(t, "all of nothing", p.addressed(0, chunk))
	for _, offer.Size = range []uint64{1 << 31, 1 << 32, 1 << 40, 1 << 63, math.MaxUint64} {
		chunk = letter.Letter{Kind: letter.Chunk, Size: offer.Size, Bytes: []byte("some")}
		p.hear(t, "a large Offer", p.both(offer)[0], api.OK)
		for n := range 5 {
			chunk.At = uint64(4 * n)
			p.hear(t, "some bytes", p.both(chunk)[0], api.OK)
			p.wantComing(t, "some bytes", 4*n+4)
		}
		chunk.At = math.MaxUint64 - 2
		p.refuse(t, "bytes at the end", p.both(chunk)[0], api.ErrOld)
	}
}

// TestLargeFold: a fold of several Chunks of the largest size comes whole.
func TestLargeFold(t *testing.T) {
	h := large(3)
	p := alone(t)
	l := p.addressed(0, append([]letter.Letter{h.offer()}, h.chunks(mostChunk)...)...)
	for _, x := range l {
		p.wantAnswer(t, "", x, api.OK)
	}
	if len(l) != 5 {
		t.Errorf("%d letters", len(l))
	}
	p.after(t, "a large fold", h, 3)
}

package talk_test

import (
	"math"
	"slices"
	"testing"

	"anabranch/api"
	"anabranch/fold"
	"anabranch/letter"
	"anabranch/matrix"
	"anabranch/store"
	"anabranch/talk"
	"anabranch/vector"
)

// The tests of P1 and P2, of P17.4 for nil objects, and of the rule on memory.

// numbers are some that have a meaning at a limit.
var numbers = []uint64{0, 1, heard, begun, 1 << 31, 1 << 40, api.End, api.End + 1, math.MaxUint64}

// odd returns letters of a kind with odd values in each field.
func odd(kind byte) []letter.Letter {
	var l []letter.Letter
	add := func(change func(x *letter.Letter)) {
		x := full(kind)
		change(&x)
		l = append(l, x)
	}
	add(func(x *letter.Letter) { *x = letter.Letter{Kind: kind} })
	add(func(x *letter.Letter) { *x = letter.Letter{Kind: kind, From: 1, Mine: true, Serial: heard} })
	add(func(x *letter.Letter) { *x = letter.Letter{Kind: kind, From: 1, Serial: begun} })
	for _, n := range numbers {
		add(func(x *letter.Letter) { x.Serial = n })
		add(func(x *letter.Letter) { x.Have = []uint64{n} })
		add(func(x *letter.Letter) { x.Have = slices.Repeat([]uint64{n}, 64) })
		add(func(x *letter.Letter) { x.Have = slices.Repeat([]uint64{n}, 1000) })
		add(func(x *letter.Letter) { x.Rows = []api.Row{{Node: 1, Have: slices.Repeat([]uint64{n}, 1000), Time: n}} })
		add(func(x *letter.Letter) { x.Rows = slices.Repeat([]api.Row{{Node: int(n), Time: n}}, 1000) })
		add(func(x *letter.Letter) { x.Time = n })
		add(func(x *letter.Letter) { x.Size = n })
		add(func(x *letter.Letter) { x.At = n })
		add(func(x *letter.Letter) { x.Size, x.At = n, n })
		add(func(x *letter.Letter) {
			x.Events = []api.Event{{Writer: int(n), Seq: n, Time: n, Kind: byte(n), Node: int(n)}}
		})
		add(func(x *letter.Letter) {
			x.Events = []api.Event{{Writer: 1, Seq: n, Time: n, Kind: api.Join, Node: int(n)}}
		})
		add(func(x *letter.Letter) { x.Why = api.Errno(n) })
	}
	for _, n := range noNodes {
		add(func(x *letter.Letter) { x.From = n })
		add(func(x *letter.Letter) { x.To = n })
		add(func(x *letter.Letter) { x.Events[0].Writer = n })
	}
	add(func(x *letter.Letter) { x.Events = make([]api.Event, 1000) })
	add(func(x *letter.Letter) { x.Why = math.MinInt })
	return l
}

// TestNil is P17.4: nil Talks, or a nil store, lead to ErrNone and 0.
func TestNil(t *testing.T) {
	var none *talk.Talks
	p := busy(t, "0.1@1", 0)
	before := p.state()
	if none.Coming() != 0 || none.Serial() != 0 {
		t.Error("nil Talks count something")
	}
	for _, c := range []struct {
		t *talk.Talks
		s *store.Store
	}{{nil, nil}, {nil, p.s}, {p.t, nil}} {
		for _, m := range []*matrix.Matrix{nil, p.m} {
			for _, to := range append([]int{0, 1, 2, 63}, noNodes...) {
				x, e := c.t.Begin(c.s, m, to)
				wantError(t, "Begin", e, api.ErrNone)
				wantLetters(t, "Begin", []letter.Letter{x}, []letter.Letter{{}})
			}
			for kind := range byte(10) {
				for _, x := range odd(kind) {
					l, e := c.t.Hear(c.s, m, x)
					wantError(t, "Hear("+brief(x)+")", e, api.ErrNone)
					wantLetters(t, "Hear", l, nil)
				}
			}
			if c.s == nil {
				talk.Note(c.s, m)
			}
		}
	}
	if after := p.state(); after != before {
		t.Errorf("nil objects have changed %s to %s", before, after)
	}
}

// TestOddLetters is P1: calls end without a panic, also for letters that cannot be encoded, one after the other.
func TestOddLetters(t *testing.T) {
	for _, m := range []*matrix.Matrix{matrix.New(), nil} {
		for kind := range byte(10) {
			p := busy(t, "0.1@1 1.1@2 0.2@4", 1)
			p.m = m
			for _, x := range odd(kind) {
				for range 2 {
					p.t.Hear(p.s, p.m, p.both(x)[1])
					p.t.Hear(p.s, p.m, x)
				}
			}
			for _, offer := range odd(letter.Offer) {
				for _, chunk := range odd(letter.Chunk) {
					offer.Serial, chunk.Serial = math.MaxUint64, math.MaxUint64
					p.t.Hear(p.s, p.m, offer)
					p.t.Hear(p.s, p.m, chunk)
				}
			}
		}
	}
}

// TestOddObjects is P1: calls end, also with a store whose disk has stopped, and with objects that were not made as they must be.
func TestOddObjects(t *testing.T) {
	p, q := busy(t, "0.1@1 1.1@2 0.2@4", 1), busy(t, "0.1@1 1.1@2 0.2@4", 1)
	p.d.Arm(0, 0)
	p.d.Sync("x")
	q.t = &talk.Talks{}
	for _, q := range []*peer{p, q, {s: &store.Store{}, t: talk.New(1, 1, 1)}} {
		for kind := range byte(9) {
			for _, x := range odd(kind) {
				q.t.Hear(q.s, q.m, x)
			}
		}
		talk.Note(q.s, q.m)
		q.t.Begin(q.s, q.m, 1)
	}
}

// TestTheSameAgain is P2: equal calls of equal objects have equal answers, whatever other objects were asked in between.
func TestTheSameAgain(t *testing.T) {
	a, b, other := busy(t, "0.1@1 1.1@2 0.2@4", 1), busy(t, "0.1@1 1.1@2 0.2@4", 1), busy(t, "0.1@1", 0)
	for range 2 {
		for kind := range byte(9) {
			for _, x := range odd(kind) {
				l, e := a.t.Hear(a.s, a.m, x)
				other.t.Hear(other.s, other.m, full(letter.Hello))
				m, wrong := b.t.Hear(b.s, b.m, x)
				wantError(t, brief(x), wrong, e)
				wantLetters(t, brief(x), m, l)
				if a.state() != b.state() {
					t.Fatalf("after %s: %.300s and %.300s", brief(x), a.state(), b.state())
				}
			}
		}
	}
}

// TestHelloAgain is P2: what a replica sends does not depend on what it has sent before.
func TestHelloAgain(t *testing.T) {
	p := simple(t, "0.1@1 1.1@2 0.2@4", 1)
	want := p.lacks(nil, 3, 20)
	for range 3 {
		wantLacked(t, p, nil, want)
		p.begin(t, 1)
		wantLacked(t, p, []uint64{1}, p.lacks([]uint64{1}, 3, 20))
	}
}

// roomy returns a copy of a slice, behind which there is another element in the same memory.
func roomy[T any](l []T, behind T) []T {
	return append(slices.Clone(l), behind)[:len(l)]
}

// beyond returns what is in the memory behind a slice that roomy returned.
func beyond[T any](l []T) T { return l[:len(l)+1][len(l)] }

// spread returns a copy of a letter with something behind each of its slices.
func spread(x letter.Letter) letter.Letter {
	x.Have, x.Bytes = roomy(x.Have, 99), roomy(x.Bytes, 99)
	x.Rows, x.Events = roomy(x.Rows, api.Row{Node: 99}), roomy(x.Events, api.Event{Writer: 99})
	for i := range x.Rows {
		x.Rows[i].Have = roomy(x.Rows[i].Have, 99)
	}
	for i := range x.Events {
		x.Events[i].Text = roomy(x.Events[i].Text, 99)
	}
	return x
}

// untouched reports whether spread(before) is still what it was.
func untouched(x, before letter.Letter) bool {
	same := identical(x, before) && beyond(x.Have) == 99 && beyond(x.Bytes) == 99 && beyond(x.Rows).Node == 99 && beyond(x.Events).Writer == 99
	for _, r := range x.Rows {
		same = same && beyond(r.Have) == 99
	}
	for _, e := range x.Events {
		same = same && beyond(e.Text) == 99
	}
	return same
}

// spoil overwrites everything that the slices of a letter hold, and appends to them.
func spoil(x letter.Letter) {
	_, _, _, _ = append(x.Have, 77), append(x.Rows, api.Row{Node: 77}), append(x.Events, api.Event{Writer: 77}), append(x.Bytes, 77)
	for i, r := range x.Rows {
		_ = append(r.Have, 77)
		fill(r.Have, 77)
		x.Rows[i] = api.Row{Node: 77}
	}
	for i, e := range x.Events {
		_ = append(e.Text, 77)
		fill(e.Text, 77)
		x.Events[i] = api.Event{Writer: 77}
	}
	fill(x.Have, 77)
	fill(x.Bytes, 77)
}

func fill[T any](l []T, with T) {
	for i := range l {
		l[i] = with
	}
}

// TestArguments: letters that were heard stay as they are, and nothing that is kept depends on them.
func TestArguments(t *testing.T) {
	h := sent()
	p, q := alone(t), alone(t)
	news := listed("0.3@7 1.3@8")
	for _, before := range []letter.Letter{
		p.both(full(letter.Ack))[0], p.both(full(letter.Summary))[1], p.both(full(letter.Hello))[0],
		p.both(h.offer())[0], p.both(h.chunks(20)[0])[0], p.both(h.chunks(20)[1])[0], p.both(h.chunks(20)[2])[0],
		p.events(1, heard, h.floor(), h.l[4]), p.events(1, heard, nil, news...), p.events(1, heard, nil, news...),
		p.events(1, heard, []uint64{9}, news...), p.both(abort(api.ErrArg))[1], p.both(full(letter.Hello))[0],
	} {
		x := spread(before)
		l, e := p.t.Hear(p.s, p.m, x)
		want, wrong := q.t.Hear(q.s, q.m, before)
		if !untouched(x, before) {
			t.Fatalf("%s, or what is behind it, has changed: it was %s", brief(x), brief(before))
		}
		spoil(x)
		wantError(t, brief(before), e, wrong)
		wantLetters(t, brief(before), l, want)
		if p.state() != q.state() {
			t.Fatalf("after a change of %s: %.300s, want %.300s", brief(before), p.state(), q.state())
		}
	}
	if !slices.Equal(p.s.Have(), []uint64{3, 3, 1}) {
		t.Errorf("the store has %v", p.s.Have())
	}
}

// TestAnswers: what was returned may be written over, and appended to, whatever is asked later.
func TestAnswers(t *testing.T) {
	p, q := busy(t, "0.1@1 1.1@2 0.2@3 1.2@4 0.3@5", 2), busy(t, "0.1@1 1.1@2 0.2@3 1.2@4 0.3@5", 2)
	for range 3 {
		for _, x := range []letter.Letter{
			p.hello(1, heard), p.hello(1, heard, 1), p.hello(1, heard, 2, 1), p.both(letter.Letter{Kind: letter.Summary, Have: []uint64{1, 1}})[1],
			p.events(1, heard, nil), p.events(1, heard, []uint64{9}), p.events(1, heard, nil, listed("0.1@1")...),
		} {
			have := slices.Clone(x.Have)
			l, _ := p.t.Hear(p.s, p.m, x)
			_ = append(l, letter.Letter{Kind: 77})
			for i := range l {
				spoil(l[i])
				l[i] = letter.Letter{Kind: 77}
			}
			want, _ := q.t.Hear(q.s, q.m, x)
			again, _ := p.t.Hear(p.s, p.m, x)
			wantLetters(t, "after a change of the answer to "+brief(x), again, want)
			if p.state() != q.state() || !slices.Equal(x.Have, have) {
				t.Fatalf("after a change of the answer to %s: %.300s, want %.300s", brief(x), p.state(), q.state())
			}
		}
		x, y := p.begin(t, 1), q.begin(t, 1)
		spoil(x)
		x, y = p.begin(t, 1), q.begin(t, 1)
		wantLetters(t, "Begin", []letter.Letter{x}, []letter.Letter{y})
		for _, r := range []*peer{p, q} { // the number that the letters above are of
			r.t = talk.New(10, 3, 20)
			r.begin(t, 1)
		}
	}
}

// TestLettersShareNothing: what is written over, or appended to, in one letter of an answer is in no other one.
func TestLettersShareNothing(t *testing.T) {
	p := held{nodes: 3, l: listed("0.1@1 1.1@2 0.2@3 1.2@4 0.3@5 2.1@5 0.4@6 0.5@7 0.6@8"), time: 2}.open(t, settings{batch: 3, chunk: 20})
	want := p.replies(p.hello(1, heard), p.lacks(nil, 3, 20))
	for i := range want {
		l, _ := p.t.Hear(p.s, p.m, p.hello(1, heard))
		l = l[1:]
		spoil(l[i])
		_ = append(l[i].Bytes, "more"...)
		_ = append(l[i].Events, api.Event{Kind: 78}, api.Event{Kind: 78})
		_ = append(l[i].Have, 78, 78, 78)
		l[i] = want[i]
		wantLetters(t, "the others", l, want)
	}
}

// TestAnswersStay: letters that were returned do not change with the store and the matrix.
func TestAnswersStay(t *testing.T) {
	p := simple(t, "0.1@1 1.1@2 0.2@3 1.2@4 0.3@5", 2)
	l, _ := p.t.Hear(p.s, p.m, p.hello(1, heard))
	h := p.begin(t, 1)
	before := shape(append(slices.Clone(l), h))
	want := p.replies(p.hello(1, heard), p.lacks(nil, 3, 20))
	p.m.Raise(api.Row{Node: 0, Have: slices.Repeat([]uint64{9}, 64), Time: 99})
	p.s.Write(listed("0.1@1")[0])
	wantError(t, "Truncate", p.s.Truncate(5), api.OK)
	if after := shape(append(slices.Clone(l), h)); after != before {
		t.Errorf("%s became %s", before, after)
	}
	wantLetters(t, "later", l[1:], want)
}

// TestFoldIsNotKept: a fold that came is the store's alone, and what was received does not change with it.
func TestFoldIsNotKept(t *testing.T) {
	h := sent()
	p := alone(t)
	chunk := p.both(h.chunks(1000)[0])[0]
	p.hear(t, "the Offer", p.both(h.offer())[0], api.OK)
	x := chunk
	x.Bytes = slices.Clone(chunk.Bytes)
	p.hear(t, "all of it", x, api.OK, installed())
	clear(x.Bytes)
	f, e := fold.Decode(p.s.Base().Encode())
	if e != api.OK || !slices.Equal(f.Have(), vector.Vector{2, 1, 1}) || string(f.Encode()) != string(h.encoded()) {
		t.Error("the fold has changed")
	}
}

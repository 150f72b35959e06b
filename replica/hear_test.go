package replica_test

import (
	"fmt"
	"math"
	"math/rand"
	"slices"
	"testing"

	"anabranch/api"
	"anabranch/check"
	"anabranch/letter"
	"anabranch/replica"
)

// The tests of P18.2 for Begin and Hear.

// TestBegin: the Hello of talk, encoded, whomever it is to; the own row is noted.
func TestBegin(t *testing.T) {
	r := having(t, 2, config, events())
	tell(t, r, row(1, 4, 2, 1), row(63, 1))
	rows := []api.Row{row(1, 4, 2, 1), row(2, 8, 2, 2, 1), row(63, 1)}
	for i, to := range []int{0, 1, 0, 63, 3, 62} {
		want := letter.Letter{Kind: letter.Hello, From: 2, To: to, Mine: true, Serial: 1<<32 + 1 + uint64(i), Have: r.Vector(), Rows: rows}
		if p := begin(t, r, to); string(p) != string(letter.Encode(want)) {
			t.Errorf("Begin(%d) = %v, want %v", to, decoded(t, p), want)
		}
		wantRow(t, "behind Begin", r, rows[1])
	}
	write(t, r, drop("k"))
	if x := decoded(t, begin(t, r, 1)); !slices.Equal(x.Have, []uint64{2, 2, 2}) || !sameRow(x.Rows[1], row(2, 9, 2, 2, 2)) {
		t.Errorf("behind a Write: %v", x)
	}
}

// TestBeginNone: ErrArg for a node that there is not, and for the own one; nothing is noted, and no number is used.
func TestBeginNone(t *testing.T) {
	for _, own := range []int{0, 1, 63} {
		r := having(t, own, config, events())
		before := state(r)
		for _, to := range append([]int{own}, noNodes...) {
			if p, e := r.Begin(to); len(p) > 0 || e != api.ErrArg || state(r) != before {
				t.Errorf("Begin(%d) of %d = %x, %d; it is %s, before it %s", to, own, p, e, state(r), before)
			}
		}
		if x := decoded(t, begin(t, r, (own+1)%3)); x.Serial != 1<<32+1 {
			t.Errorf("the first exchange has the number %x", x.Serial)
		}
	}
}

// answered checks what a replica answers to a letter.
func answered(t *testing.T, what string, r *replica.Replica, x letter.Letter, wrong api.Errno, want ...letter.Letter) {
	t.Helper()
	l, e := r.Hear(letter.Encode(x))
	wantError(t, what, e, wrong)
	if len(l) != len(want) {
		t.Fatalf("%s: %d letters %v, want %d", what, len(l), l, len(want))
	}
	for i, y := range want {
		y.From, y.To, y.Mine, y.Serial = r.Store().Node(), x.From, !x.Mine, x.Serial
		if string(letter.Encode(l[i])) != string(letter.Encode(y)) {
			t.Fatalf("%s: letter %d is %v, want %v", what, i, l[i], y)
		}
	}
}

// report returns a letter of a kind, of a replica with events of node 0 that knows these rows, too.
func report(r *replica.Replica, kind byte, rows ...api.Row) letter.Letter {
	own := api.Row{Node: 0, Have: r.Vector(), Time: r.Store().Clock()}
	return letter.Letter{Kind: kind, Have: r.Vector(), Rows: append([]api.Row{own}, rows...)}
}

// TestHear: each kind of letter.
func TestHear(t *testing.T) {
	r := having(t, 0, config, events())
	wantError(t, "the store's Truncate", r.Store().Truncate(5), api.OK)
	base := foldOf(t, 3, events()[:3])
	lacks := append(offered(base, 5)[:1], chunks(base.Encode(), 20)...)
	rest := letter.Letter{Kind: letter.Batch, Have: []uint64{2, 1}, Events: events()[3:]}
	rows := []api.Row{row(1, 4, 2, 1), row(2, 3, 1)}
	hello := letter.Letter{Kind: letter.Hello, Have: []uint64{2}, Rows: rows}
	answered(t, "Hello", r, to(r, 1, hello), api.OK, append(append([]letter.Letter{report(r, letter.Summary, rows...)}, lacks...), rest)...)
	mine := decoded(t, begin(t, r, 2)).Serial
	summary := letter.Letter{Kind: letter.Summary, From: 2, Serial: mine, Have: []uint64{2, 1, 1}, Rows: []api.Row{row(2, 6, 2, 1, 1)}}
	answered(t, "Summary", r, summary, api.OK, letter.Letter{Kind: letter.Batch, Have: []uint64{2, 1, 1}, Events: events()[4:]})
	wantRow(t, "behind a Summary", r, row(2, 6, 2, 1, 1))
	answered(t, "Ack", r, to(r, 1, letter.Letter{Kind: letter.Ack, Rows: []api.Row{row(1, 8, 2, 2, 1)}}), api.OK)
	wantRow(t, "behind an Ack", r, row(1, 8, 2, 2, 1))
	rows = []api.Row{row(1, 8, 2, 2, 1), row(2, 6, 2, 1, 1)}
	batch := letter.Letter{Kind: letter.Batch, Have: []uint64{2, 2, 1}, Events: []api.Event{at(1, 3, 9, put("x", 1)), at(2, 2, 9, drop("x"))}}
	hear(t, r, 1, batch)
	wantView(t, "behind a Batch", r, 3, append(events(), batch.Events...))
	answered(t, "a Batch again", r, to(r, 1, batch), api.ErrOld, report(r, letter.Ack, rows...))
	gap := letter.Letter{Kind: letter.Batch, Have: []uint64{3}, Events: []api.Event{at(1, 4, 10, drop("y"))}}
	answered(t, "a Batch beyond a gap", r, to(r, 1, gap), api.ErrGap, letter.Letter{Kind: letter.Abort, Why: api.ErrGap})
	disorder := letter.Letter{Kind: letter.Batch, Events: []api.Event{at(2, 3, 11, drop("y")), at(1, 4, 10, drop("y"))}}
	answered(t, "a Batch without order", r, to(r, 1, disorder), api.ErrArg, letter.Letter{Kind: letter.Abort, Why: api.ErrArg})
	answered(t, "an Abort", r, to(r, 1, letter.Letter{Kind: letter.Abort, Why: api.ErrGap}), api.OK)
	answered(t, "an old Offer", r, to(r, 1, offered(base, 5)[0]), api.ErrOld)
	answered(t, "a Chunk that is not expected", r, to(r, 1, offered(base, 5)[1]), api.ErrOld)
	wantView(t, "afterwards", r, 3, append(events(), batch.Events...))
}

// chunks returns the letters with the bytes of a fold.
func chunks(p []byte, chunk int) []letter.Letter {
	var l []letter.Letter
	for at := 0; at < len(p); at += chunk {
		l = append(l, letter.Letter{Kind: letter.Chunk, Size: uint64(len(p)), At: uint64(at), Bytes: p[at:min(at+chunk, len(p))]})
	}
	return l
}

// TestFoldIsHeard: an Offer and Chunks of any size; one that is lost or comes twice, an Abort, and bytes that are not those
// that were offered.
func TestFoldIsHeard(t *testing.T) {
	f := foldOf(t, 3, events())
	p := f.Encode()
	for _, size := range []int{1, 7, len(p) - 1, len(p)} {
		r := open(t, 0, config)
		hear(t, r, 1, offered(f, 8)[0])
		l := chunks(p, size)
		for i, x := range l {
			answered(t, "a later Chunk", r, to(r, 1, letter.Letter{Kind: letter.Chunk, Size: x.Size, At: x.At + 1}), api.ErrOld)
			if i > 0 {
				answered(t, "a Chunk again", r, to(r, 1, l[i-1]), api.ErrOld)
			}
			if i+1 < len(l) {
				answered(t, "a Chunk", r, to(r, 1, x), api.OK)
			}
			if len(r.Vector()) > 0 {
				t.Fatalf("it has %v before all has come", r.Vector())
			}
		}
		last := hear(t, r, 1, l[len(l)-1])
		if len(last) != 1 || last[0].Kind != letter.Ack || !sameRow(r.Matrix().Row(0), row(0, 8, 2, 2, 1)) {
			t.Errorf("the last Chunk was answered by %v", last)
		}
		wantView(t, "a fold", r, 3, events())
		wantStable(t, "a fold", r, 8)
	}
	r := open(t, 0, config)
	hear(t, r, 1, offered(f, 8)[0])
	hear(t, r, 1, letter.Letter{Kind: letter.Abort})
	answered(t, "a Chunk behind an Abort", r, to(r, 1, offered(f, 8)[1]), api.ErrOld)
	for _, x := range []struct {
		bytes []byte
		sum   uint32
		time  uint64
		want  api.Errno
	}{
		{p, check.Sum(p) + 1, 8, api.ErrForm},
		{p[:len(p)-1], check.Sum(p[:len(p)-1]), 8, api.ErrForm},
		{p, check.Sum(p), 7, api.ErrArg},
	} {
		r := open(t, 0, config)
		size := uint64(len(x.bytes))
		hear(t, r, 1, letter.Letter{Kind: letter.Offer, Have: f.Have(), Time: x.time, Size: size, Sum: x.sum})
		answered(t, "wrong bytes", r, to(r, 1, letter.Letter{Kind: letter.Chunk, Size: size, Bytes: x.bytes}), x.want, letter.Letter{Kind: letter.Abort, Why: x.want})
		if len(r.Vector()) > 0 || r.Stable() > 0 {
			t.Errorf("of wrong bytes it has %v", r.Vector())
		}
	}
}

// kinds returns a letter of each kind, all of which a replica with events takes that has begun an exchange with node 1.
func kinds(t *testing.T, r *replica.Replica) []letter.Letter {
	t.Helper()
	f := foldOf(t, 3, append(events(), at(1, 3, 9, drop("k"))))
	l := []letter.Letter{
		{Kind: letter.Hello, Have: []uint64{2, 1}, Rows: []api.Row{row(1, 4, 2, 1), row(2, 3, 1)}},
		offered(f, 9)[0], offered(f, 9)[1],
		{Kind: letter.Batch, Have: []uint64{2, 3}, Events: []api.Event{at(1, 4, 10, drop("k"))}},
		{Kind: letter.Ack, Have: []uint64{2}, Rows: []api.Row{row(2, 9, 2)}},
		{Kind: letter.Abort, Why: api.ErrGap},
	}
	for i := range l {
		l[i] = to(r, 1, l[i])
	}
	summary := letter.Letter{Kind: letter.Summary, From: 1, Serial: decoded(t, begin(t, r, 1)).Serial, Have: []uint64{2}, Rows: []api.Row{row(1, 4, 2, 1)}}
	return append(l, summary)
}

// refused checks that a replica does not hear some bytes, with the error that letter.Decode returns.
func refused(t *testing.T, what string, r *replica.Replica, p []byte) {
	t.Helper()
	_, want := letter.Decode(p)
	l, e := r.Hear(p)
	if e == api.OK || e != want || len(l) > 0 {
		t.Fatalf("%s: Hear(%x) = %v, %d, want %d", what, p, l, e, want)
	}
}

// TestNoLetter: bytes that are none change nothing.
func TestNoLetter(t *testing.T) {
	r := having(t, 0, config, events())
	l := kinds(t, r)
	before := state(r)
	refused(t, "nil", r, nil)
	refused(t, "no bytes", r, []byte{})
	refused(t, "zeros", r, make([]byte, 100))
	for _, text := range []string{"", "\x01", "\x01\x01", "\x01\x08\x01\x00\x00\x00", "\x02\x01\x01\x00\x01\x07\x00\x00", "junk"} {
		refused(t, "a record that is no letter", r, check.Wrap([]byte(text)))
	}
	rnd := rand.New(rand.NewSource(1))
	for range 20000 {
		p := make([]byte, rnd.Intn(40))
		rnd.Read(p)
		refused(t, "random bytes", r, p)
		refused(t, "a record of random bytes", r, check.Wrap(p))
	}
	for _, x := range l {
		p := letter.Encode(x)
		for i := range p {
			refused(t, "some are missing", r, p[:i])
			refused(t, "some are missing at the beginning", r, p[i+1:])
			refused(t, "one is missing", r, slices.Delete(slices.Clone(p), i, i+1))
			for by := 1; by < 256; by++ {
				bent := slices.Clone(p)
				bent[i] ^= byte(by)
				refused(t, fmt.Sprintf("byte %d is wrong", i), r, bent)
			}
		}
		refused(t, "one more", r, append(slices.Clone(p), 0))
		refused(t, "twice", r, append(slices.Clone(p), p...))
		refused(t, "more", r, append(slices.Clone(p), "junk"...))
	}
	if after := state(r); after != before {
		t.Errorf("it is %s, before it %s", after, before)
	}
	for _, x := range l { // all of which it hears as they are
		_, e := r.Hear(letter.Encode(x))
		wantError(t, fmt.Sprintf("Hear of a letter of kind %d", x.Kind), e, api.OK)
	}
}

// TestTooLong: ErrLong of letter.Decode.
func TestTooLong(t *testing.T) {
	r := open(t, 0, config)
	x := to(r, 1, letter.Letter{Kind: letter.Hello})
	for _, change := range []func(x *letter.Letter){
		func(x *letter.Letter) { x.From = 64 }, func(x *letter.Letter) { x.To = 64 }, func(x *letter.Letter) { x.Serial = api.End + 1 },
		func(x *letter.Letter) { x.Rows = make([]api.Row, 65) }, func(x *letter.Letter) { x.Have = slices.Repeat([]uint64{1}, 65) },
		func(x *letter.Letter) { x.Kind, x.Bytes = letter.Chunk, make([]byte, letter.Most) },
	} {
		y := x
		change(&y)
		if l, e := r.Hear(letter.Encode(y)); len(l) > 0 || e != api.ErrLong {
			t.Errorf("Hear of a letter of kind %d = %v, %d", y.Kind, l, e)
		}
	}
}

// TestWrongLetter: those that talk refuses, of which there is nothing to send, and which change nothing.
func TestWrongLetter(t *testing.T) {
	r := having(t, 0, config, events())
	l := kinds(t, r)
	other := open(t, 1, config)
	write(t, other, drop("k"))
	hear(t, r, 1, letter.Letter{Kind: letter.Ack})
	before := state(r)
	for _, x := range l {
		for _, c := range []struct {
			what   string
			change func(x *letter.Letter)
			want   api.Errno
		}{
			{"to another one", func(x *letter.Letter) { x.To = 2 }, api.ErrArg},
			{"to a far one", func(x *letter.Letter) { x.To = 63 }, api.ErrArg},
			{"from itself", func(x *letter.Letter) { x.From = 0 }, api.ErrArg},
			{"of an exchange that is over", func(x *letter.Letter) { x.Mine, x.Serial = true, serial-1 }, api.ErrOld},
			{"of an exchange that was never begun", func(x *letter.Letter) { x.Mine, x.Serial = false, 2<<32 }, api.ErrOld},
			{"of an exchange that was begun with another one", func(x *letter.Letter) { x.Mine, x.Serial, x.From = false, 1<<32+1, 2 }, api.ErrOld},
		} {
			y := x
			c.change(&y)
			if answers, e := r.Hear(letter.Encode(y)); len(answers) > 0 || e != c.want || state(r) != before {
				t.Errorf("a letter of kind %d %s: %v, %d, want %d", x.Kind, c.what, answers, e, c.want)
			}
		}
	}
	x := to(r, 1, letter.Letter{Kind: letter.Summary})
	answered(t, "a Summary of who began", r, x, api.ErrArg)
	answered(t, "a Hello of who did not begin", r, letter.Letter{Kind: letter.Hello, From: 1, Serial: 1<<32 + 1}, api.ErrArg)
}

// TestExchange: what each of two had, both have, whoever begins, and each knows what both have.
func TestExchange(t *testing.T) {
	for _, from := range []int{0, 1} {
		l := cluster(t, 2)
		for i := range 7 {
			write(t, l[0], set(fmt.Sprint("k", i), "v"))
			write(t, l[1], add("n", float64(i)))
		}
		exchange(t, l, from, 1-from)
		v, w := l[0].View(), l[1].View()
		if v.Mark() != w.Mark() || v.Len() != 14 || !slices.Equal(l[0].Vector(), []uint64{7, 7}) || !slices.Equal(l[1].Vector(), []uint64{7, 7}) {
			t.Errorf("%v and %v", l[0].Vector(), l[1].Vector())
		}
		for _, r := range l {
			wantStable(t, "both know", r, 7)
			wantError(t, "Truncate", r.Truncate(), api.OK)
			if c, ok := r.Read("n"); !ok || !sameCell(c, api.Cell{Kind: api.Put, Num: 21}) || r.View().Len() != 0 {
				t.Errorf("n is %v, and %d events are told", c, r.View().Len())
			}
		}
	}
}

// TestLateJoin: a node that joins late gets the fold and what follows, and is waited for from then on.
func TestLateJoin(t *testing.T) {
	l := cluster(t, 2)
	write(t, l[0], set("k", "v"), add("n", math.Pi))
	exchange(t, l, 0, 1)
	exchange(t, l, 1, 0)
	wantError(t, "Truncate", l[0].Truncate(), api.OK)
	wantError(t, "Truncate", l[1].Truncate(), api.OK)
	write(t, l[0], join(2))
	exchange(t, l, 0, 1)
	c := config
	c.Nodes = 2
	l = append(l, open(t, 2, c))
	_, e := l[2].Write(drop("k"))
	wantError(t, "before it knows that it has joined", e, api.ErrMember)
	wantStable(t, "before all know the third one", l[1], 2)
	exchange(t, l, 2, 1)
	if l[2].Store().Time() != 2 || l[2].View().Len() != 1 {
		t.Errorf("it has folded up to %d, and tells %d events", l[2].Store().Time(), l[2].View().Len())
	}
	wantStable(t, "the late one", l[2], 3)
	x := write(t, l[2], drop("k"))
	if !sameEvent(x, at(2, 1, 4, drop("k"))) {
		t.Errorf("its first event is %v", x)
	}
	for range 2 {
		exchange(t, l, 0, 1)
		exchange(t, l, 1, 2)
		exchange(t, l, 2, 0)
	}
	for i, r := range l {
		wantStable(t, fmt.Sprint("replica ", i), r, 4)
		if _, ok := r.Read("k"); ok || r.View().Mark() != l[0].View().Mark() {
			t.Errorf("replica %d has not dropped the key", i)
		}
	}
}

// TestTwoFoldsOfOneSize: a Hello that comes twice may be answered by two folds. If their letters mix, the Sum is a different one;
// nothing is installed, and the next exchange brings the fold.
func TestTwoFoldsOfOneSize(t *testing.T) {
	c := config
	c.Nodes, c.Chunk = 1, 1000
	a, b := open(t, 0, c), open(t, 1, c)
	write(t, a, set("k", "v"), join(1))
	hello := begin(t, b, 0)
	var offers, folds []letter.Letter
	for time := range uint64(2) {
		wantError(t, "the store's Truncate", a.Store().Truncate(time+1), api.OK)
		l, e := a.Hear(hello)
		wantError(t, "Hear", e, api.OK)
		offers, folds = append(offers, l[1]), append(folds, l[2])
	}
	if offers[0].Size != offers[1].Size {
		t.Fatalf("the folds have %d and %d bytes", offers[0].Size, offers[1].Size)
	}
	answered(t, "the later Offer", b, offers[1], api.OK)
	answered(t, "the earlier fold", b, folds[0], api.ErrForm, letter.Letter{Kind: letter.Abort, Why: api.ErrForm})
	if len(b.Vector()) > 0 {
		t.Errorf("it has %v", b.Vector())
	}
	exchange(t, []*replica.Replica{a, b}, 1, 0)
	wantView(t, "the next exchange", b, 1, []api.Event{at(0, 1, 1, set("k", "v")), at(0, 2, 2, join(1))})
}

package post_test

import (
	"math/rand"
	"slices"
	"testing"

	"anabranch/api"
	"anabranch/post"
)

// The tests of P1 and P2, and of the rule on memory, which for this package is stricter: arguments and results may be modified.

// spoil overwrites bytes, and what may be behind them.
func spoil(p []byte) {
	p = p[:cap(p)]
	for i := range p {
		p[i] ^= 0xff
	}
}

// TestAnyNumbers is P1: calls end without a panic, for all numbers, with no packets, few and as many as there may be.
func TestAnyNumbers(t *testing.T) {
	for _, o := range []*post.Post{nil, {}, holding(post.Packet{}), holding(packet(1, "abc"), packet(2, "")), holding(numbered(0, 511)...), holding(numbered(0, 600)...)} {
		n := o.Len()
		for _, i := range ends {
			for _, k := range ends {
				o.Send(post.Packet{From: i, To: k})
				o.Bend(i, k, i)
				o.Bend(k, i, k)
				o.Bend(i, i, i)
				o.Double(i)
				o.Peek(k)
				o.Take(i)
				o.Take(k)
			}
		}
		if o.Len() < 0 || o.Len() > post.Most || o == nil && n+o.Len() != 0 {
			t.Errorf("%d packets", o.Len())
		}
	}
}

// TestSentMayBeModified: what was sent is kept as it was then, and stays as the caller has it.
func TestSentMayBeModified(t *testing.T) {
	p := append([]byte("abcdef"), "behind"...)[:6]
	x := post.Packet{From: 1, To: 2, P: p}
	o := holding(x, x) // twice, with the same memory
	wantError(t, "Bend", o.Bend(0, 0, 3), api.OK)
	want := []post.Packet{bent(packet(1, ""), "bbcdef"), packet(1, "abcdef")}
	want[0].To, want[1].To = 2, 2
	wantPackets(t, "sent twice", o, want...)
	if string(p) != "abcdef" || string(p[:12]) != "abcdefbehind" || x.Bent {
		t.Errorf("the post has changed what was sent: %q, %v", p[:12], x)
	}
	spoil(p)
	x.From, x.To, x.Bent, x.P = 7, 8, true, nil
	wantPackets(t, "written over", o, want...)
}

// TestPartsOfOneSlice: packets that were sent with neighbouring bytes do not run into each other.
func TestPartsOfOneSlice(t *testing.T) {
	p := []byte("abcd")
	o := holding(packet(1, ""), packet(2, ""))
	o.Send(post.Packet{From: 3, P: p[:2]})
	o.Send(post.Packet{From: 4, P: p[2:]})
	x, _ := o.Peek(2)
	_ = append(x.P, "XYZ"...)
	y, _ := o.Take(2)
	_ = append(y.P, "XYZ"...)
	if z, _ := o.Peek(2); string(z.P) != "cd" || string(p) != "abcd" {
		t.Errorf("the neighbour is %q, the slice %q", z.P, p)
	}
}

// TestPeekedMayBeModified: each Peek returns bytes of its own.
func TestPeekedMayBeModified(t *testing.T) {
	a := packet(1, "abc")
	o := holding(a, packet(2, "d"))
	x, _ := o.Peek(0)
	y, _ := o.Peek(0)
	spoil(x.P)
	wantPacket(t, "another answer", y, api.OK, a)
	wantPackets(t, "behind changes of a result", o, a, packet(2, "d"))
	wantError(t, "Bend", o.Bend(0, 0, 1), api.OK)
	wantPacket(t, "an answer before the Bend", y, api.OK, a)
	x, _ = o.Peek(0)
	spoil(x.P)
	wantPackets(t, "behind changes of a bent result", o, bent(a, "`bc"), packet(2, "d"))
}

// TestTakenMayBeModified: what was taken shares nothing with what stays or comes.
func TestTakenMayBeModified(t *testing.T) {
	a, b := packet(1, "abc"), packet(2, "def")
	o := holding(a, b, a)
	wantError(t, "Double", o.Double(0), api.OK)
	x, _ := o.Take(0)
	spoil(x.P)
	wantPackets(t, "behind changes of what was taken", o, b, a, a)
	y, _ := o.Take(1)
	o.Send(packet(3, "ghi"))
	wantError(t, "Double", o.Double(0), api.OK)
	wantError(t, "Bend", o.Bend(1, 0, 1), api.OK)
	wantPacket(t, "what was taken", y, api.OK, a)
	spoil(y.P)
	wantPackets(t, "behind changes of both", o, b, bent(a, "`bc"), packet(3, "ghi"), b)
	o.Send(y)
	spoil(y.P)
	wantPackets(t, "sent again", o, b, bent(a, "`bc"), packet(3, "ghi"), b, packet(1, "\x9e\x9d\x9c"))
}

// TestDoubledAreIndependent: a packet and its copies share no bytes.
func TestDoubledAreIndependent(t *testing.T) {
	a := packet(1, "abc")
	o := holding(a)
	for range 3 {
		wantError(t, "Double", o.Double(0), api.OK)
	}
	wantError(t, "Bend of the first one", o.Bend(0, 0, 1), api.OK)
	wantError(t, "Bend of a copy", o.Bend(2, 1, 1), api.OK)
	want := []post.Packet{bent(a, "`bc"), a, bent(a, "acc"), a}
	wantPackets(t, "two are bent", o, want...)
	x, _ := o.Take(0)
	spoil(x.P)
	wantPackets(t, "the first one is taken", o, want[1:]...)
	y, _ := o.Take(2)
	spoil(y.P)
	wantPackets(t, "the last one is taken", o, want[1:3]...)
}

// TestMostAreIndependent: also packets that replace lost ones share no bytes with any.
func TestMostAreIndependent(t *testing.T) {
	l := numbered(0, 1200)
	var peeked []post.Packet
	o := &post.Post{}
	for i, x := range l {
		o.Send(x)
		y, _ := o.Peek(min(i, post.Most-1))
		peeked = append(peeked, y)
		if i >= 700 {
			wantError(t, "Bend of the oldest one", o.Bend(0, 0, 1), api.OK)
		}
	}
	for i, y := range peeked {
		wantPacket(t, "an answer behind many Sends", y, api.OK, l[i])
		spoil(y.P)
	}
	want := slices.Clone(l[1200-post.Most:])
	want[0] = bent(want[0], string(append([]byte{want[0].P[0] ^ 1}, want[0].P[1:]...)))
	wantPackets(t, "many Sends", o, want...)
}

// TestTheSameAgain is P2: equal calls have equal answers, whatever other posts were asked, and what only asks changes nothing.
func TestTheSameAgain(t *testing.T) {
	for seed := range int64(50) {
		a, b, other := &post.Post{}, &post.Post{}, holding(numbered(0, 5)...)
		m, n := &model{}, &model{}
		r, again, noise := rand.New(rand.NewSource(seed)), rand.New(rand.NewSource(seed)), rand.New(rand.NewSource(-seed-1))
		for range 200 {
			step(t, r, a, m, 4)
			for range 3 {
				a.Len()
				x, _ := a.Peek(anyInt(noise))
				spoil(x.P)
				other.Send(anyPacket(noise))
				other.Bend(anyInt(noise), anyInt(noise), anyInt(noise))
				other.Take(anyInt(noise))
			}
		}
		for range 200 {
			step(t, again, b, n, 4)
		}
		if a.Len() != b.Len() || !slices.Equal(m.l, n.l) {
			t.Fatalf("%d packets, and %d", a.Len(), b.Len())
		}
		for i := range a.Len() {
			x, e := a.Peek(i)
			y, wrong := b.Peek(i)
			if e != wrong || !samePacket(x, y) {
				t.Fatalf("Peek(%d): %v, %d, and %v, %d", i, x, e, y, wrong)
			}
		}
	}
}

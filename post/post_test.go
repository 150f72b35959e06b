package post_test

import (
	"fmt"
	"math"
	"slices"
	"testing"

	"anabranch/api"
	"anabranch/post"
)

// The tests of P19.1.

// TestExample: that of the chapter.
func TestExample(t *testing.T) {
	a, b := packet(1, "a"), packet(2, "b")
	o := holding(a, b)
	x, e := o.Take(3)
	wantPacket(t, "Take(3)", x, e, b)
	wantPackets(t, "behind Take(3)", o, a)
}

// none checks that each call finds nothing in transit, and changes nothing.
func none(t *testing.T, what string, o *post.Post) {
	t.Helper()
	for _, i := range ends {
		if x, e := o.Take(i); e != api.ErrNone || !samePacket(x, post.Packet{}) {
			t.Fatalf("%s: Take(%d) = %v, %d", what, i, x, e)
		}
		wantError(t, what+": Double", o.Double(i), api.ErrNone)
		for _, n := range ends {
			wantError(t, what+": Bend", o.Bend(i, n, 1), api.ErrNone)
			wantError(t, what+": Bend", o.Bend(i, 0, n), api.ErrNone)
		}
	}
	wantNothing(t, what, o)
}

// TestEmpty: the zero value is ready for use, and so is a post that is empty again.
func TestEmpty(t *testing.T) {
	var o post.Post
	none(t, "the zero value", &o)
	o.Send(packet(1, "a"))
	wantPackets(t, "one packet", &o, packet(1, "a"))
	o.Take(0)
	none(t, "empty again", &o)
	o.Send(packet(2, "b"))
	wantPackets(t, "one packet again", &o, packet(2, "b"))
}

// TestNil: a nil post takes nothing, and returns ErrNone and 0.
func TestNil(t *testing.T) {
	var o *post.Post
	none(t, "nil", o)
	for n := range post.Most + 2 {
		o.Send(packet(n, "a"))
	}
	none(t, "nil, behind Sends", o)
}

// TestPacketsAsTheyAre: all numbers, bytes and flags that are sent come back, the oldest first.
func TestPacketsAsTheyAre(t *testing.T) {
	l := []post.Packet{
		{},
		{P: []byte{}},
		{From: 1, To: 2, P: []byte("abc")},
		{From: math.MinInt, To: math.MaxInt, P: []byte{0, 255}},
		{From: -1, To: -1, P: make([]byte, 1<<20)},
		{From: 64, To: 64, P: []byte("bent"), Bent: true},
		{Bent: true},
		{From: 1, To: 2, P: []byte("abc")},
	}
	o := holding(l...)
	wantPackets(t, "sent", o, l...)
	for _, want := range l {
		x, e := o.Take(0)
		wantPacket(t, "Take(0)", x, e, want)
	}
	wantNothing(t, "all taken", o)
}

// places is which packet an index means, for a number of packets.
var places = []struct{ n, i, want int }{
	{1, 0, 0}, {1, 1, 0}, {1, 7, 0}, {1, -1, 0}, {1, -2, 0}, {1, math.MinInt, 0}, {1, math.MaxInt, 0},
	{2, 0, 0}, {2, 1, 1}, {2, 2, 0}, {2, 3, 1}, {2, -1, 1}, {2, -2, 0}, {2, math.MinInt, 0}, {2, math.MaxInt, 1},
	{3, 0, 0}, {3, 2, 2}, {3, 3, 0}, {3, 4, 1}, {3, -1, 0}, {3, -2, 2}, {3, -3, 1}, {3, -4, 0}, {3, math.MinInt, 2}, {3, math.MaxInt, 1},
	{5, 4, 4}, {5, 5, 0}, {5, 6, 1}, {5, 13, 3}, {5, -1, 0}, {5, -2, 4}, {5, -5, 1}, {5, -6, 0}, {5, math.MinInt, 3}, {5, math.MaxInt, 2},
	{6, 5, 5}, {6, 6, 0}, {6, 1 << 32, 4}, {6, -1, 3}, {6, -2, 2}, {6, -6, 4}, {6, -1 << 32, 0}, {6, math.MinInt, 2}, {6, math.MaxInt, 1},
	{7, 6, 6}, {7, 7, 0}, {7, 8, 1}, {7, -1, 1}, {7, -2, 0}, {7, -3, 6}, {7, -7, 2}, {7, -8, 1}, {7, math.MinInt, 1}, {7, math.MaxInt, 0},
	{511, 510, 510}, {511, 511, 0}, {511, 512, 1}, {511, -1, 1}, {511, -3, 510}, {511, math.MinInt, 1}, {511, math.MaxInt, 0},
	{512, 511, 511}, {512, 512, 0}, {512, 513, 1}, {512, -1, 511}, {512, -512, 0}, {512, -513, 511}, {512, math.MinInt, 0}, {512, math.MaxInt, 511},
}

// TestIndices: each call means the same packet by the same index.
func TestIndices(t *testing.T) {
	for _, c := range places {
		what := fmt.Sprintf("%d packets, index %d", c.n, c.i)
		l := numbered(0, c.n)
		o, want := holding(l...), l[c.want]
		x, e := o.Peek(c.i)
		wantPacket(t, what+": Peek", x, e, want)
		wantPackets(t, what+": Peek", o, l...)
		if c.n < post.Most {
			wantError(t, what+": Double", o.Double(c.i), api.OK)
			wantPackets(t, what+": Double", o, append(slices.Clone(l), want)...)
			o = holding(l...)
		}
		changed := slices.Clone(l)
		changed[c.want] = bent(want, string(append([]byte{want.P[0] ^ 3}, want.P[1:]...)))
		wantError(t, what+": Bend", o.Bend(c.i, 0, 3), api.OK)
		wantPackets(t, what+": Bend", o, changed...)
		x, e = o.Take(c.i)
		wantPacket(t, what+": Take", x, e, changed[c.want])
		wantPackets(t, what+": Take", o, slices.Delete(changed, c.want, c.want+1)...)
	}
}

// TestPlaces: a place among the bytes wraps around like an index among the packets, by the number of the packet's bytes.
func TestPlaces(t *testing.T) {
	for _, c := range places {
		p := make([]byte, c.n)
		l := []post.Packet{packet(1, "a"), packet(2, string(p)), packet(3, "abcdefgh")}
		o := holding(l...)
		wantError(t, fmt.Sprint("Bend at ", c.i), o.Bend(1, c.i, 0x81), api.OK)
		p[c.want] = 0x81
		wantPackets(t, fmt.Sprintf("Bend at %d of %d bytes", c.i, c.n), o, l[0], bent(l[1], string(p)), l[2])
	}
}

// TestBits: a byte is combined with the lowest eight bits of by, or with 1.
func TestBits(t *testing.T) {
	for _, c := range []struct {
		by   int
		want byte
	}{
		{0, 1}, {1, 1}, {2, 2}, {3, 3}, {0x80, 0x80}, {255, 255},
		{256, 1}, {257, 1}, {258, 2}, {511, 255}, {512, 1}, {1 << 32, 1}, {1<<40 + 6, 6},
		{-1, 255}, {-2, 254}, {-128, 128}, {-255, 1}, {-256, 1}, {-257, 255}, {-512, 1}, {-1 << 32, 1},
		{math.MinInt, 1}, {math.MinInt + 5, 5}, {math.MaxInt, 255}, {math.MaxInt - 4, 251},
	} {
		for _, b := range []byte{0, 1, 0x55, 0xaa, 0xfe, 255} {
			x := packet(1, string([]byte{7, b, 9}))
			o := holding(x)
			wantError(t, fmt.Sprint("Bend by ", c.by), o.Bend(0, 1, c.by), api.OK)
			wantPackets(t, fmt.Sprintf("Bend of %d by %d", b, c.by), o, bent(x, string([]byte{7, b ^ c.want, 9})))
		}
	}
}

// TestEveryBend: there is none after which the bytes are as before, and none that changes a second byte.
func TestEveryBend(t *testing.T) {
	for place := range 3 {
		for by := -300; by < 600; by++ {
			o := holding(packet(1, "abc"))
			wantError(t, "Bend", o.Bend(0, place, by), api.OK)
			x, _ := o.Take(0)
			for i, b := range []byte("abc") {
				if changed := x.P[i] != b; changed != (i == place) || len(x.P) != 3 || !x.Bent {
					t.Fatalf("Bend at %d by %d: %v", place, by, x)
				}
			}
		}
	}
}

// TestBendOfNoBytes: the packet is bent then, and stays without bytes.
func TestBendOfNoBytes(t *testing.T) {
	for _, p := range [][]byte{nil, {}} {
		for _, n := range ends {
			x := post.Packet{From: 1, To: 2, P: p}
			o := holding(x, packet(3, "a"))
			wantError(t, "Bend of no bytes", o.Bend(0, n, n), api.OK)
			wantPackets(t, "Bend of no bytes", o, bent(x, ""), packet(3, "a"))
			wantError(t, "Bend of no bytes, again", o.Bend(0, n, n), api.ErrOld)
			wantPackets(t, "Bend of no bytes, again", o, bent(x, ""), packet(3, "a"))
		}
	}
}

// TestBentOnce: what is bent is not bent again, by whatever, nor is its copy; what is like it is.
func TestBentOnce(t *testing.T) {
	a, b := packet(1, "abc"), packet(2, "def")
	o := holding(a, b)
	wantError(t, "Double", o.Double(0), api.OK) // not bent yet
	wantError(t, "Bend", o.Bend(0, 1, 4), api.OK)
	c := bent(a, "afc")
	wantError(t, "Double of what is bent", o.Double(0), api.OK)
	wantPackets(t, "doubled", o, c, b, a, c)
	for _, n := range ends {
		for _, i := range []int{0, 3, 4, 7} {
			wantError(t, "Bend of what is bent", o.Bend(i, n, 1), api.ErrOld)
			wantError(t, "Bend of what is bent", o.Bend(i, 1, n), api.ErrOld)
		}
	}
	wantPackets(t, "bent twice", o, c, b, a, c)
	wantError(t, "Bend of the earlier copy", o.Bend(2, 0, 3), api.OK)
	wantPackets(t, "the earlier copy is bent", o, c, b, bent(a, "bbc"), c)
	wantError(t, "Bend of another packet", o.Bend(1, 2, 1), api.OK)
	wantPackets(t, "another packet is bent", o, c, bent(b, "deg"), bent(a, "bbc"), c)

	x, _ := o.Take(0)
	o = holding(x, a)
	wantError(t, "Bend of a packet that was sent bent", o.Bend(0, 0, 1), api.ErrOld)
	wantPackets(t, "sent bent", o, c, a)
	x.Bent = false
	o.Send(x)
	wantError(t, "Bend of a packet that is sent as it was before", o.Bend(2, 0, 1), api.OK)
	wantPackets(t, "sent again", o, c, a, bent(a, "`fc"))
}

// TestOldestAreLost: of more packets than there may be.
func TestOldestAreLost(t *testing.T) {
	if post.Most != 512 {
		t.Fatalf("Most is %d", post.Most)
	}
	for _, n := range []int{1, 511, 512, 513, 514, 1023, 1024, 1025, 2000} {
		l := numbered(0, n)
		o := holding(l...)
		l = l[max(0, n-512):]
		wantPackets(t, fmt.Sprint(n, " packets"), o, l...)
		for _, want := range l {
			x, e := o.Take(0)
			wantPacket(t, fmt.Sprint("Take of ", n, " packets"), x, e, want)
		}
		wantNothing(t, fmt.Sprint(n, " packets, all taken"), o)
	}
}

// TestRoomAgain: when a packet was taken there is room for one more, and none is lost for it.
func TestRoomAgain(t *testing.T) {
	for _, i := range []int{0, 1, 255, 510, 511} {
		l := numbered(0, 512)
		o := holding(l...)
		x, e := o.Take(i)
		wantPacket(t, "Take", x, e, l[i])
		l = slices.Delete(l, i, i+1)
		o.Send(packet(512, "new"))
		l = append(l, packet(512, "new"))
		wantPackets(t, "as many as there may be, again", o, l...)
		o.Send(packet(513, "newer"))
		wantPackets(t, "one more", o, append(l[1:], packet(513, "newer"))...)
	}
}

// TestDoubleAtMost: there it is ErrFull, and nothing is lost; at one below it is not.
func TestDoubleAtMost(t *testing.T) {
	for _, i := range []int{0, 1, 510, 511, -1, math.MinInt, math.MaxInt} {
		l := numbered(0, 511)
		o := holding(l...)
		want, _ := o.Peek(i)
		wantError(t, "Double of 511", o.Double(i), api.OK)
		l = append(l, want)
		wantPackets(t, "Double of 511", o, l...)
		wantError(t, "Double of 512", o.Double(i), api.ErrFull)
		wantPackets(t, "Double of 512", o, l...)
		o.Take(0)
		wantError(t, "Double of 511 again", o.Double(0), api.OK)
		wantPackets(t, "Double of 511 again", o, append(l[1:], l[1])...)
	}
}

// TestDoubleOfAll: a post can be filled by copies of one packet.
func TestDoubleOfAll(t *testing.T) {
	o := holding(packet(5, "abc"))
	l := []post.Packet{packet(5, "abc")}
	for len(l) < 512 {
		wantError(t, "Double", o.Double(len(l)/2), api.OK)
		l = append(l, packet(5, "abc"))
	}
	wantError(t, "Double of 512", o.Double(0), api.ErrFull)
	wantPackets(t, "doubled", o, l...)
}

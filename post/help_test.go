package post_test

import (
	"fmt"
	"math"
	"testing"

	"anabranch/api"
	"anabranch/post"
)

// ends are the numbers at the ends of an int and of smaller kinds of numbers.
var ends = []int{math.MinInt, math.MinInt + 1, -1 << 32, -1<<31 - 1, -1 << 31, -513, -512, -511, -257, -256, -255, -2, -1,
	0, 1, 2, 255, 256, 257, 511, 512, 513, 1<<31 - 1, 1 << 31, 1 << 32, math.MaxInt - 1, math.MaxInt}

// packet returns a packet of node n.
func packet(n int, p string) post.Packet { return post.Packet{From: n, To: n + 100, P: []byte(p)} }

// bent returns the packet x, bent, with the bytes p.
func bent(x post.Packet, p string) post.Packet {
	x.P, x.Bent = []byte(p), true
	return x
}

// holding returns a post to which packets were sent.
func holding(l ...post.Packet) *post.Post {
	o := &post.Post{}
	for _, x := range l {
		o.Send(x)
	}
	return o
}

// numbered returns n packets, of the nodes from first on, whose bytes tell their node.
func numbered(first, n int) []post.Packet {
	var l []post.Packet
	for i := first; i < first+n; i++ {
		l = append(l, packet(i, fmt.Sprint(i)))
	}
	return l
}

func samePacket(a, b post.Packet) bool {
	return a.From == b.From && a.To == b.To && string(a.P) == string(b.P) && a.Bent == b.Bent
}

func wantError(t *testing.T, what string, got, want api.Errno) {
	t.Helper()
	if got != want {
		t.Fatalf("%s: %d, want %d", what, got, want)
	}
}

// wantPacket checks the answer of a Take or a Peek.
func wantPacket(t *testing.T, what string, x post.Packet, e api.Errno, want post.Packet) {
	t.Helper()
	if e != api.OK || !samePacket(x, want) {
		t.Fatalf("%s: %v, %d, want %v", what, x, e, want)
	}
}

// wantNothing checks that nothing is in transit.
func wantNothing(t *testing.T, what string, o *post.Post) {
	t.Helper()
	if n := o.Len(); n != 0 {
		t.Fatalf("%s: %d packets, want none", what, n)
	}
	for _, i := range ends {
		if x, e := o.Peek(i); e != api.ErrNone || !samePacket(x, post.Packet{}) {
			t.Fatalf("%s: Peek(%d) = %v, %d", what, i, x, e)
		}
	}
}

// wantPackets checks which packets are in transit.
func wantPackets(t *testing.T, what string, o *post.Post, want ...post.Packet) {
	t.Helper()
	if len(want) == 0 {
		wantNothing(t, what, o)
		return
	}
	if n := o.Len(); n != len(want) {
		t.Fatalf("%s: %d packets, want %d", what, n, len(want))
	}
	for i, w := range want {
		x, e := o.Peek(i)
		wantPacket(t, fmt.Sprintf("%s: Peek(%d)", what, i), x, e, w)
	}
}

package post_test

import (
	"fmt"
	"math"
	"math/big"
	"math/rand"
	"testing"

	"anabranch/api"
	"anabranch/post"
)

// model is the chapter, told as simply as possible: a queue of packets with text.
type model struct{ l []note }

// note is a packet as the model has it.
type note struct {
	from, to int
	p        string
	bent     bool
}

func noted(x post.Packet) note { return note{x.From, x.To, string(x.P), x.Bent} }

// modulo returns which of n things an index means, counted with integers of any size.
func modulo(i, n int) int {
	x := big.NewInt(int64(i))
	if i < 0 {
		x.Add(x, new(big.Int).Lsh(big.NewInt(1), 64))
	}
	return int(x.Mod(x, big.NewInt(int64(n))).Int64())
}

func (m *model) send(x note) {
	m.l = append(m.l, x)
	for len(m.l) > 512 {
		m.l = m.l[1:]
	}
}

func (m *model) peek(i int) (note, api.Errno) {
	if len(m.l) == 0 {
		return note{}, api.ErrNone
	}
	return m.l[modulo(i, len(m.l))], api.OK
}

func (m *model) take(i int) (note, api.Errno) {
	x, e := m.peek(i)
	if e == api.OK {
		k := modulo(i, len(m.l))
		m.l = append(append([]note{}, m.l[:k]...), m.l[k+1:]...)
	}
	return x, e
}

func (m *model) double(i int) api.Errno {
	x, e := m.peek(i)
	switch {
	case e != api.OK:
		return e
	case len(m.l) == 512:
		return api.ErrFull
	}
	m.l = append(m.l, x)
	return api.OK
}

func (m *model) bend(i, place, by int) api.Errno {
	x, e := m.peek(i)
	switch {
	case e != api.OK:
		return e
	case x.bent:
		return api.ErrOld
	}
	if p := []byte(x.p); len(p) > 0 {
		bits := modulo(by, 256)
		if bits == 0 {
			bits = 1
		}
		p[modulo(place, len(p))] ^= byte(bits)
		x.p = string(p)
	}
	x.bent = true
	m.l[modulo(i, len(m.l))] = x
	return api.OK
}

// anyInt returns a number as an index may be: often a small one, or one at the ends.
func anyInt(r *rand.Rand) int {
	switch r.Intn(4) {
	case 0:
		return ends[r.Intn(len(ends))]
	case 1:
		return int(r.Uint64())
	case 2:
		return r.Intn(1100) - 550
	}
	return r.Intn(8)
}

func anyPacket(r *rand.Rand) post.Packet {
	p := make([]byte, max(0, r.Intn(12)-2))
	r.Read(p)
	return post.Packet{From: anyInt(r), To: anyInt(r), P: p, Bent: r.Intn(20) == 0}
}

// wantNote checks an answer by that of the model; the caller may write over it afterwards.
func wantNote(t *testing.T, what string, x post.Packet, e api.Errno, want note, wrong api.Errno) {
	t.Helper()
	if e != wrong || noted(x) != want {
		t.Fatalf("%s: %v, %d, want %v, %d", what, x, e, want, wrong)
	}
	spoil(x.P)
}

// step makes the same call at both.
func step(t *testing.T, r *rand.Rand, o *post.Post, m *model, sends int) {
	t.Helper()
	i, place, by := anyInt(r), anyInt(r), anyInt(r)
	switch k := r.Intn(sends + 12); {
	case k < 3:
		x, e := o.Take(i)
		want, wrong := m.take(i)
		wantNote(t, fmt.Sprintf("Take(%d)", i), x, e, want, wrong)
	case k < 6:
		wantError(t, fmt.Sprintf("Double(%d)", i), o.Double(i), m.double(i))
	case k < 9:
		wantError(t, fmt.Sprintf("Bend(%d, %d, %d)", i, place, by), o.Bend(i, place, by), m.bend(i, place, by))
	case k < 12:
		x, e := o.Peek(i)
		want, wrong := m.peek(i)
		wantNote(t, fmt.Sprintf("Peek(%d)", i), x, e, want, wrong)
	default:
		x := anyPacket(r)
		o.Send(x)
		m.send(noted(x))
		spoil(x.P)
	}
	if o.Len() != len(m.l) {
		t.Fatalf("Len = %d, want %d", o.Len(), len(m.l))
	}
}

// alike checks all packets by those of the model.
func alike(t *testing.T, o *post.Post, m *model) {
	t.Helper()
	for i := range m.l {
		x, e := o.Peek(i)
		wantNote(t, fmt.Sprintf("Peek(%d)", i), x, e, m.l[i], api.OK)
	}
}

// TestAgainstTheModel is P19.1, for all that may come after all: posts that are nearly empty, and posts that are nearly full.
func TestAgainstTheModel(t *testing.T) {
	r := rand.New(rand.NewSource(19))
	least, greatest := math.MaxInt, 0
	for round := range 400 {
		o, m := &post.Post{}, &model{}
		first := []int{0, 3, 508, 512, 530}[round%5]
		for range first {
			x := anyPacket(r)
			o.Send(x)
			m.send(noted(x))
		}
		for range 300 {
			step(t, r, o, m, []int{1, 4, 20}[round%3])
			least, greatest = min(least, o.Len()), max(greatest, o.Len())
			if len(m.l) < 20 || r.Intn(50) == 0 {
				alike(t, o, m)
			}
		}
		alike(t, o, m)
	}
	if least != 0 || greatest != 512 {
		t.Errorf("there were %d to %d packets", least, greatest)
	}
}

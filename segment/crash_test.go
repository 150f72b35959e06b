package segment_test

import (
	"math/rand"
	"slices"
	"testing"

	"anabranch/api"
	"anabranch/disk"
	"anabranch/segment"
)

// TestNothingDurableIsLost is P8.2: whatever is added, refused and lost at crashes, Open finds all events that were
// durable, and after them the first ones of those that were not.
func TestNothingDurableIsLost(t *testing.T) {
	r := rand.New(rand.NewSource(83))
	for range 1000 {
		writer, first := r.Intn(api.MaxNodes), 1+r.Uint64()>>(1+r.Intn(63))
		name := nameOf(writer, first)
		d := disk.New(200 + r.Intn(500))
		s, e := segment.Create(d, writer, first)
		wantError(t, "Create", e, api.OK)
		var l []api.Event
		safe := 0
		for range 50 {
			switch r.Intn(6) {
			case 0:
				if d.Sync(name) == api.OK {
					safe = len(l)
				}
			case 1:
				d.Arm(r.Intn(4), r.Intn(60))
			default:
				x := randomEvent(r, writer, first+uint64(len(l)))
				next, e := s.Add(d, x)
				switch e {
				case api.OK:
					l = append(l, x)
					s = next
				case api.ErrStop: // all of it may be written
					l = append(l, x)
				case api.ErrFull:
				default:
					t.Fatalf("Add: %d", e)
				}
			}
			if !d.On() {
				s = restart(t, r, d, name, safe, l)
				l = l[:len(s.L):len(s.L)]
				safe = len(l)
			}
			wantSegment(t, s, writer, first, l...)
			if p, e := d.Read(name); e != api.OK || string(p) != file(writer, first, l...) || len(p) != s.Size || t.Failed() {
				t.Fatalf("Read = %q, %d, of %d events", p, e, len(l))
			}
		}
	}
}

// restart lets the disk crash, and returns the segment that Open finds, which has the first events of l, and all that were durable.
func restart(t *testing.T, r *rand.Rand, d *disk.Disk, name string, safe int, l []api.Event) segment.Segment {
	t.Helper()
	d.Crash(r.Intn(80))
	s, e := segment.Open(d, name)
	if e != api.OK || len(s.L) < safe || len(s.L) > len(l) {
		t.Fatalf("%d events of %d, of which %d were durable, %d", len(s.L), len(l), safe, e)
	}
	return s
}

// TestOpenOfAnything is P1, and P8.2: what Open returns are the events at the beginning of the file, and nothing is left behind them.
func TestOpenOfAnything(t *testing.T) {
	r := rand.New(rand.NewSource(84))
	events, cut := 0, 0
	for range 20000 {
		writer, first := r.Intn(4), uint64(r.Intn(4))
		p := randomFile(r, writer, first)
		d := with(t, wide, nameOf(writer, first), p)
		s, e := segment.Open(d, nameOf(writer, first))
		after, _ := d.Read(nameOf(writer, first))
		if e != api.OK {
			wantNone(t, "Open", s, e, e)
			if string(after) != p || e != api.ErrForm && e != api.ErrShort && e != api.ErrLong {
				t.Fatalf("Open of %q: %d, and the file became %q", p, e, after)
			}
			continue
		}
		l := slices.Clone(s.L)
		want := file(writer, first, l...)
		wantSegment(t, s, writer, first, l...)
		for i, x := range l {
			if x.Writer != writer || x.Seq != first+uint64(i) || x.Seq == 0 || x.Time == 0 {
				t.Fatalf("Open of %q: event %v", p, x)
			}
		}
		if string(after) != want || p[:len(want)] != want || t.Failed() {
			t.Fatalf("Open of %q = %s, and the file became %q", p, brief(s), after)
		}
		events += len(l)
		if len(p) > len(want) {
			cut++
		}
	}
	if events < 5000 || cut < 2000 {
		t.Errorf("only %d events, %d cuts", events, cut)
	}
}

// randomFile returns a segment of which a bit may be wrong, or the end missing, or an event another one.
func randomFile(r *rand.Rand, writer int, first uint64) string {
	p := title(writer, first)
	if r.Intn(10) == 0 {
		p = head("sf"[r.Intn(2)], uint64(r.Intn(4)), uint64(r.Intn(4)))
	}
	for i := range uint64(r.Intn(6)) {
		e := randomEvent(r, writer, first+i)
		switch r.Intn(16) {
		case 0:
			e.Writer = r.Intn(4)
		case 1:
			e.Seq = uint64(r.Intn(6))
		case 2:
			e.Kind = byte(r.Intn(9))
		}
		p += sealed(encoded(e))
	}
	if r.Intn(4) == 0 {
		b := []byte(p)
		b[r.Intn(len(b))] ^= 1 << r.Intn(8)
		p = string(b)
	}
	if r.Intn(4) == 0 {
		p = p[:r.Intn(len(p))+1]
	}
	return p
}

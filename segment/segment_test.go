package segment_test

import (
	"math"
	"slices"
	"strings"
	"testing"

	"anabranch/api"
	"anabranch/disk"
	"anabranch/segment"
)

// The tests of P8.1 that are about Create.

func TestCreate(t *testing.T) {
	for _, writer := range []int{0, 1, 3, 62, 63} {
		for _, first := range []uint64{1, 127, 128, 255, 1 << 32, api.End, api.End + 1, math.MaxUint64} {
			want := title(writer, first)
			d := with(t, len(want), "other", "o")
			s, e := segment.Create(d, writer, first)
			wantError(t, "Create", e, api.OK)
			wantSegment(t, s, writer, first)
			wantActs(t, d, 4, nameOf(writer, first), len(want))
			wantFiles(t, d, nameOf(writer, first), want, "other", "o")
			d.Crash(0)
			wantFiles(t, d, nameOf(writer, first), want, "other", "o")
		}
	}
}

// TestCreateOfNone: whatever else is wrong, too, it is ErrArg, and no operation is done.
func TestCreateOfNone(t *testing.T) {
	for _, c := range []struct {
		writer int
		first  uint64
	}{{-1, 1}, {64, 1}, {65, 255}, {math.MinInt, 1}, {math.MaxInt, 1}, {256, 1}, {0, 0}, {3, 0}, {63, 0}, {-1, 0}, {64, 0}} {
		for _, d := range []*disk.Disk{with(t, wide, "other", "o"), with(t, 0, nameOf(c.writer, c.first), "old"), stopped(), nil} {
			acts, names := d.Acts(), d.Names("")
			s, e := segment.Create(d, c.writer, c.first)
			wantNone(t, "Create", s, e, api.ErrArg)
			if d.Acts() != acts || !slices.Equal(d.Names(""), names) {
				t.Errorf("%d operations, files %q", d.Acts()-acts, d.Names(""))
			}
		}
	}
}

// TestCreateOfAnOldFile: whatever it holds, it stays, even if there is no room.
func TestCreateOfAnOldFile(t *testing.T) {
	for _, p := range []string{"", "no sheet", title(3, 5), file(3, 5, run(5, 3)...)} {
		for _, room := range []int{0, wide} {
			d := with(t, room, nameOf(3, 5), p)
			s, e := segment.Create(d, 3, 5)
			wantNone(t, "Create", s, e, api.ErrOld)
			wantActs(t, d, 2, nameOf(3, 5), len(p))
			wantFiles(t, d, nameOf(3, 5), p)
		}
	}
}

func TestCreateWithoutRoom(t *testing.T) {
	for room := range len(title(3, 5)) {
		d := with(t, room, "other", "o")
		s, e := segment.Create(d, 3, 5)
		wantNone(t, "Create", s, e, api.ErrFull)
		wantFiles(t, d, "other", "o")
	}
}

func TestCreateAtWhichTheDiskStops(t *testing.T) {
	for _, d := range []*disk.Disk{stopped(), nil} {
		s, e := segment.Create(d, 3, 5)
		wantNone(t, "Create after it", s, e, api.ErrStop)
	}
	want := title(3, 5)
	for stop := range 2 {
		for torn := range len(want) + 2 {
			for _, keep := range []int{0, 1, torn, len(want)} {
				d := disk.New(wide)
				d.Arm(stop, torn)
				s, e := segment.Create(d, 3, 5)
				wantNone(t, "Create", s, e, api.ErrStop)
				d.Crash(keep)
				if p, f := d.Read(nameOf(3, 5)); f == api.OK && !strings.HasPrefix(want, string(p)) {
					t.Errorf("stop %d, torn %d, keep %d: %q", stop, torn, keep, p)
				}
			}
		}
	}
	d := disk.New(wide)
	d.Arm(2, 1)
	s, e := segment.Create(d, 3, 5)
	wantError(t, "Create", e, api.OK)
	wantSegment(t, s, 3, 5)
}

// The tests of P8.2 that are about Add.

func TestAdd(t *testing.T) {
	for _, first := range []uint64{1, 5, 126, 1 << 40} {
		l := run(first, 14)
		s, d := begun(t, first)
		for i, e := range l {
			next, err := s.Add(d, e)
			wantError(t, "Add", err, api.OK)
			wantSegment(t, next, 3, first, l[:i+1]...)
			wantSegment(t, s, 3, first, l[:i]...)
			wantActs(t, d, 4+i, nameOf(3, first), len(title(3, first)))
			wantFiles(t, d, nameOf(3, first), file(3, first, l[:i+1]...))
			s = next
		}
	}
}

// TestAddForEveryWriter: events of other writers are refused, of whatever writer the segment is.
func TestAddForEveryWriter(t *testing.T) {
	for writer := range api.MaxNodes {
		d := disk.New(wide)
		s, _ := segment.Create(d, writer, 1)
		for other := range api.MaxNodes {
			e := full(api.Put, 1)
			e.Writer = other
			next, err := s.Add(d, e)
			if other != writer {
				wantError(t, "Add of another writer's", err, api.ErrGap)
				wantSegment(t, next, writer, 1)
				continue
			}
			wantError(t, "Add", err, api.OK)
			wantSegment(t, next, writer, 1, e)
			d.Cut(nameOf(writer, 1), s.Size)
		}
		wantFiles(t, d, nameOf(writer, 1), title(writer, 1))
	}
}

// TestAddDropsUnusedFields: they are neither examined nor kept. The time of the event before it does not matter, either.
func TestAddDropsUnusedFields(t *testing.T) {
	long := []byte(strings.Repeat("x", api.MaxText+1))
	var l []api.Event
	for kind := api.Set; kind <= api.Retire; kind++ {
		e := full(kind, uint64(kind))
		if kind != api.Set {
			e.Text = long
		}
		if kind >= api.Join {
			e.Key = string(long)
		}
		if kind != api.Join {
			e.Node = -1
		}
		e.Time = 100 - e.Seq
		l = append(l, e)
	}
	s, d := begun(t, 1, l...)
	wantSegment(t, s, 3, 1, l...)
	wantFiles(t, d, nameOf(3, 1), file(3, 1, l...))
	for _, e := range s.L {
		if e.Kind != api.Set && e.Text != nil || e.Kind >= api.Join && e.Key != "" || e.Kind != api.Join && e.Node != 0 || e.Kind != api.Put && e.Kind != api.Add && e.Num != 0 {
			t.Errorf("%v", e)
		}
	}
}

// wantRefused checks that Add returns an error, and has changed nothing.
func wantRefused(t *testing.T, what string, s segment.Segment, d *disk.Disk, e api.Event, want api.Errno, l ...api.Event) {
	t.Helper()
	got, err := s.Add(d, e)
	wantError(t, what, err, want)
	wantSegment(t, got, s.Writer, s.First, l...)
	wantSegment(t, s, s.Writer, s.First, l...)
}

// TestAddOfNoEvent: what event.Right refuses is refused with its error, also on a disk that has no room or has stopped,
// and if it is not the next event.
func TestAddOfNoEvent(t *testing.T) {
	l := run(5, 2)
	s, d := begun(t, 5, l...)
	_, used := d.Room()
	d.Widen(used)
	for want, changes := range map[api.Errno][]func(e *api.Event){
		api.ErrArg: {
			func(e *api.Event) { e.Writer = -1 },
			func(e *api.Event) { e.Writer = 64 },
			func(e *api.Event) { e.Seq = 0 },
			func(e *api.Event) { e.Time = 0 },
			func(e *api.Event) { e.Kind = 0 },
			func(e *api.Event) { e.Kind = 7 },
			func(e *api.Event) { e.Kind, e.Node = api.Join, 64 },
			func(e *api.Event) { e.Kind, e.Key = 0, "" },
		},
		api.ErrLong: {
			func(e *api.Event) { e.Key = "" },
			func(e *api.Event) { e.Key = strings.Repeat("k", api.MaxKey+1) },
			func(e *api.Event) { e.Text = []byte(strings.Repeat("t", api.MaxText+1)) },
			func(e *api.Event) { e.Key, e.Time = "", math.MaxUint64 },
			func(e *api.Event) { e.Key, e.Writer = "", 4 },
			func(e *api.Event) { e.Key, e.Seq = "", 8 },
		},
		api.ErrExhausted: {
			func(e *api.Event) { e.Time = api.End + 1 },
			func(e *api.Event) { e.Time, e.Seq = api.End+1, 8 },
			func(e *api.Event) { e.Seq = api.End + 1 },
			func(e *api.Event) { e.Seq, e.Writer = math.MaxUint64, 4 },
		},
	} {
		for i, change := range changes {
			e := full(api.Set, 7)
			change(&e)
			for _, on := range []*disk.Disk{d, stopped(), nil} {
				acts := on.Acts()
				wantRefused(t, "Add of no event", s, on, e, want, l...)
				if on.Acts() != acts {
					t.Errorf("error %d, change %d: %d operations", want, i, on.Acts()-acts)
				}
			}
		}
	}
	wantFiles(t, d, nameOf(3, 5), file(3, 5, l...))
}

// TestAddOfAnotherEvent: it is right, but not the next one of the writer. Nothing is asked of the disk.
func TestAddOfAnotherEvent(t *testing.T) {
	for n := range 3 {
		l := run(5, n)
		s, d := begun(t, 5, l...)
		next := uint64(5 + n)
		acts := d.Acts()
		for _, on := range []*disk.Disk{d, stopped(), nil} {
			for _, seq := range []uint64{1, 4, next - 1, next + 1, next + 256, api.End} {
				e := full(api.Drop, seq)
				e.Time = 100
				wantRefused(t, "Add of another number", s, on, e, api.ErrGap, l...)
			}
			for _, writer := range []int{0, 2, 4, 63} {
				e := full(api.Drop, next)
				e.Writer = writer
				wantRefused(t, "Add of another writer's", s, on, e, api.ErrGap, l...)
			}
		}
		wantActs(t, d, acts, nameOf(3, 5), s.Size)
		wantFiles(t, d, nameOf(3, 5), file(3, 5, l...))
	}
}

// TestAddUpToTheEnd: the last number is End.
func TestAddUpToTheEnd(t *testing.T) {
	l := []api.Event{full(api.Retire, api.End-1), full(api.Retire, api.End)}
	l[0].Time, l[1].Time = 1, api.End
	s, d := begun(t, api.End-1, l...)
	wantSegment(t, s, 3, api.End-1, l...)
	if s.Next() != api.End+1 {
		t.Errorf("Next = %d", s.Next())
	}
	e := full(api.Retire, api.End+1)
	e.Time = 1
	wantRefused(t, "Add behind the end", s, d, e, api.ErrExhausted, l...)
	for _, first := range []uint64{api.End + 1, math.MaxUint64} {
		s, d := begun(t, first)
		e.Seq = first
		wantRefused(t, "Add behind the end", s, d, e, api.ErrExhausted)
		e.Seq = api.End
		wantRefused(t, "Add before the first", s, d, e, api.ErrGap)
		wantFiles(t, d, nameOf(3, first), title(3, first))
	}
}

func TestAddOfTheLongest(t *testing.T) {
	e := full(api.Set, 5)
	e.Key, e.Text = strings.Repeat("k", api.MaxKey), []byte(strings.Repeat("t", api.MaxText))
	s, d := begun(t, 5, e, full(api.Drop, 6))
	wantSegment(t, s, 3, 5, e, full(api.Drop, 6))
	s, err := segment.Open(d, nameOf(3, 5))
	wantError(t, "Open", err, api.OK)
	wantSegment(t, s, 3, 5, e, full(api.Drop, 6))
}

func TestAddWithoutRoom(t *testing.T) {
	l := run(5, 3)
	whole := file(3, 5, l...)
	s, d := begun(t, 5, l[:2]...)
	for room := s.Size; room < len(whole); room++ {
		d.Widen(room)
		wantRefused(t, "Add without room", s, d, l[2], api.ErrFull, l[:2]...)
		wantFiles(t, d, nameOf(3, 5), file(3, 5, l[:2]...))
	}
	d.Widen(len(whole))
	s, e := s.Add(d, l[2])
	wantError(t, "Add up to the room", e, api.OK)
	wantSegment(t, s, 3, 5, l...)
	wantFiles(t, d, nameOf(3, 5), whole)
}

// TestAddAtWhichTheDiskStops: a crash leaves the file without the event, with a part of it, or with all of it, and Open
// finds it in the last case only.
func TestAddAtWhichTheDiskStops(t *testing.T) {
	l := run(5, 3)
	before, record := file(3, 5, l[:2]...), sealed(encoded(l[2]))
	for torn := range len(record) + 2 {
		for _, keep := range []int{-1, 0, torn / 2, torn, len(record)} {
			s, d := begun(t, 5, l[:2]...)
			d.Arm(0, torn)
			wantRefused(t, "Add", s, d, l[2], api.ErrStop, l[:2]...)
			wantRefused(t, "Add after it", s, d, l[2], api.ErrStop, l[:2]...)
			d.Crash(keep)
			kept := max(0, min(keep, torn, len(record)))
			wantFiles(t, d, nameOf(3, 5), before+record[:kept])
			left := l[:2]
			if kept == len(record) {
				left = l
			}
			s, e := segment.Open(d, nameOf(3, 5))
			wantError(t, "Open", e, api.OK)
			wantSegment(t, s, 3, 5, left...)
			wantFiles(t, d, nameOf(3, 5), file(3, 5, left...))
		}
	}
}

// TestAddToSegmentsThatNobodyMade is P1: the fields of a segment may have any values.
func TestAddToSegmentsThatNobodyMade(t *testing.T) {
	for _, writer := range []int{math.MinInt, -1, 0, 3, 63, 64, math.MaxInt} {
		for _, first := range []uint64{0, 1, api.End, math.MaxUint64} {
			for _, l := range [][]api.Event{nil, {{}}, run(9, 2)} {
				s := segment.Segment{Writer: writer, First: first, L: l, Size: -7}
				if s.Next() != first+uint64(len(l)) {
					t.Errorf("Next of %v = %d", s, s.Next())
				}
				for _, d := range []*disk.Disk{disk.New(wide), stopped(), nil} {
					for _, e := range []api.Event{{}, full(api.Drop, 1), {Writer: writer, Seq: s.Next(), Time: 1, Kind: api.Retire}} {
						next, err := s.Add(d, e)
						is := err == api.OK
						if size := len(sealed(encoded(e))); is && (next.Size != size-7 || next.Next() != s.Next()+1) || !is && (next.Size != -7 || next.Next() != s.Next()) {
							t.Errorf("%v, Add of %v = %v, %d", s, e, next, err)
						}
					}
				}
			}
		}
	}
}

// The tests of the rule on memory, and of P2.

// TestAddMakesNewLists: what is added to a segment, or appended to its list, changes no other one.
func TestAddMakesNewLists(t *testing.T) {
	for n := range 20 {
		l := run(1, n+3)
		s, d := begun(t, 1, l[:n]...)
		c := disk.New(wide)
		c.Append(nameOf(3, 1), []byte(file(3, 1, l[:n]...)))
		opened, _ := segment.Open(c, nameOf(3, 1))
		for _, s := range []segment.Segment{s, opened} {
			mine := append(s.L, l[n+2])
			other := l[n]
			other.Time++
			a, e := s.Add(d, l[n])
			wantError(t, "Add", e, api.OK)
			b, e := s.Add(c, other)
			wantError(t, "Add", e, api.OK)
			_ = append(s.L, l[n+1])
			_ = append(a.L, l[n+2])
			a2, e := a.Add(d, l[n+1])
			wantError(t, "Add", e, api.OK)
			_ = append(a.L, l[n+2])
			wantSegment(t, s, 3, 1, l[:n]...)
			wantSegment(t, a, 3, 1, l[:n+1]...)
			wantSegment(t, a2, 3, 1, l[:n+2]...)
			wantSegment(t, b, 3, 1, append(l[:n:n], other)...)
			if !identical(mine[n], l[n+2]) {
				t.Errorf("what was appended became %v", mine[n])
			}
			c.Cut(nameOf(3, 1), s.Size)
			d.Cut(nameOf(3, 1), s.Size)
		}
	}
}

// TestAddKeepsNoArgument: the text of an event is copied, and left as it is.
func TestAddKeepsNoArgument(t *testing.T) {
	text := []byte("hi, and more")
	e := full(api.Set, 5)
	e.Text = text[:2]
	s, d := begun(t, 5, e)
	_ = append(s.L[0].Text, "+++"...)
	if string(text) != "hi, and more" {
		t.Errorf("the text became %q", text)
	}
	clear(text)
	want := full(api.Set, 5)
	wantSegment(t, s, 3, 5, want)
	wantFiles(t, d, nameOf(3, 5), file(3, 5, want))
	u, _ := segment.Open(d, nameOf(3, 5))
	clear(u.L[0].Text)
	wantSegment(t, s, 3, 5, want)
	wantFiles(t, d, nameOf(3, 5), file(3, 5, want))
}

func TestAnswersDoNotDependOnOtherCalls(t *testing.T) {
	l := run(5, 3)
	_, other := begun(t, 5, l...)
	for range 3 {
		s, d := begun(t, 5, l[0])
		other.Arm(0, 1)
		_, e := segment.Open(stopped(), nameOf(3, 5))
		wantError(t, "Open after a stop", e, api.ErrStop)
		_, e = s.Add(other, l[1])
		wantError(t, "Add after a stop", e, api.ErrStop)
		s, e = s.Add(d, l[1])
		wantError(t, "Add", e, api.OK)
		wantSegment(t, s, 3, 5, l[:2]...)
		for range 2 {
			u, e := segment.Open(d, nameOf(3, 5))
			wantError(t, "Open", e, api.OK)
			wantSegment(t, u, 3, 5, l[:2]...)
			wantSplit(t, nameOf(3, 5), 3, 5, true)
			wantSplit(t, "feed-3-5", 0, 0, false)
		}
		other.Crash(0)
	}
}

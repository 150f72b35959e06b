package feed_test

import (
	"math"
	"slices"
	"testing"

	"anabranch/api"
	"anabranch/disk"
	"anabranch/feed"
)

// The tests of P9.1.

// TestOpenOfAnEmptyDisk has the chapter's example.
func TestOpenOfAnEmptyDisk(t *testing.T) {
	for _, size := range []int{math.MinInt, 0, 60, large} {
		for _, floor := range []uint64{0, 1, 4, api.End, math.MaxUint64} {
			d := disk.New(0)
			f := opened(t, d, size, floor, 7)
			wantFeed(t, f, floor, 7, 0)
			if floor == 4 && f.Next() != 5 || d.Acts() != 0 {
				t.Errorf("Next = %d, %d operations", f.Next(), d.Acts())
			}
		}
	}
}

// TestOpenOfNoNode: whatever else is wrong, too, it is ErrArg, and nothing is removed.
func TestOpenOfNoNode(t *testing.T) {
	for _, writer := range []int{math.MinInt, -1, 64, 65, 256, math.MaxInt} {
		name := nameOf(writer, 1)
		d := with(t, name, "no segment")
		for _, d := range []*disk.Disk{d, stopped(t, name, "no segment"), nil} {
			acts := d.Acts()
			f, e := feed.Open(d, writer, 60, 0, 0)
			wantNoFeed(t, f, e, api.ErrArg)
			if d.Acts() != acts {
				t.Errorf("%d operations", d.Acts()-acts)
			}
		}
		wantFiles(t, d, name, "no segment")
	}
}

func TestOpenOfEveryWriter(t *testing.T) {
	for writer := range api.MaxNodes {
		e := api.Event{Writer: writer, Seq: 1, Time: 9, Kind: api.Retire}
		d := with(t, nameOf(writer, 1), file(writer, 1, e))
		f, err := feed.Open(d, writer, 60, 0, 0)
		wantError(t, "Open", err, api.OK)
		wantEvents(t, "All", f.All(), []api.Event{e})
		if f.Writer() != writer || f.Next() != 2 || f.Time() != 9 || !f.Sealed() || f.Segments() != 1 {
			t.Errorf("writer %d, next %d, time %d, %d segments", f.Writer(), f.Next(), f.Time(), f.Segments())
		}
	}
}

func TestOpenOfAStoppedDisk(t *testing.T) {
	for _, d := range []*disk.Disk{nil, stopped(t), stopped(t, part(1, 3)...)} {
		f, e := feed.Open(d, 3, 60, 0, 0)
		wantNoFeed(t, f, e, api.ErrStop)
	}
}

// openCase is files that Open finds, given as first, n, first, n .., and those that it leaves, in which the events after the floor are.
type openCase struct {
	floor uint64
	files []int
	left  []int
}

// check opens a disk with the files of the case and others, more than once, and compares what is there then.
func (c openCase) check(t *testing.T, others ...string) {
	t.Helper()
	var l []api.Event
	for i := 0; i < len(c.left); i += 2 {
		for _, e := range run(uint64(c.left[i]), c.left[i+1]) {
			if e.Seq > c.floor {
				l = append(l, e)
			}
		}
	}
	d := with(t, slices.Concat(parts(c.files...), others)...)
	for range 2 {
		f := opened(t, d, 60, c.floor, 77)
		wantFeed(t, f, c.floor, 77, len(c.left)/2, l...)
		wantFiles(t, d, parts(c.left...)...)
		wantFeed(t, opened(t, d, large, c.floor, 77), c.floor, 77, len(c.left)/2, l...)
	}
	if t.Failed() {
		t.Fatalf("of %v", c)
	}
}

// TestOpenBehindAFloor: what is removed has no event after it; the last segment, too, unless it has no events at all.
func TestOpenBehindAFloor(t *testing.T) {
	three, empty := []int{1, 3, 4, 2, 6, 3}, []int{1, 3, 4, 2, 6, 0}
	for _, c := range []openCase{
		{0, three, three},
		{1, three, three},
		{2, three, three},
		{3, three, three[2:]},
		{4, three, three[2:]},
		{5, three, three[4:]},
		{7, three, three[4:]},
		{8, three, nil},
		{9, three, nil},
		{1000, three, nil},
		{api.End, three, nil},
		{math.MaxUint64, three, nil},
		{0, empty, empty},
		{2, empty, empty},
		{3, empty, empty[2:]},
		{4, empty, empty[2:]},
		{5, empty, empty[4:]},
		{6, empty, empty[4:]},
		{7, empty, empty[4:]},
		{1000, empty, empty[4:]},
		{api.End, empty, empty[4:]},
		{math.MaxUint64, empty, empty[4:]},
		{0, []int{1, 0}, []int{1, 0}},
		{5, []int{1, 0}, []int{1, 0}},
		{0, []int{1, 1}, []int{1, 1}},
		{1, []int{1, 1}, nil},
	} {
		c.check(t)
	}
}

// TestOpenOfWhatDoesNotFollow: it is compared with what is left of the segments before it.
func TestOpenOfWhatDoesNotFollow(t *testing.T) {
	for _, c := range []openCase{
		// The first segment, which may begin before the floor, or directly after it.
		{0, []int{1, 2}, []int{1, 2}},
		{0, []int{2, 2}, nil},
		{0, []int{2, 0}, nil},
		{4, []int{5, 3}, []int{5, 3}},
		{4, []int{4, 3}, []int{4, 3}},
		{4, []int{1, 7}, []int{1, 7}},
		{4, []int{6, 3}, nil},
		{4, []int{600, 3}, nil},
		{4, []int{5, 0}, []int{5, 0}},
		{4, []int{6, 0}, nil},
		// Further ones, with a gap between them, or with events that both have.
		{0, []int{1, 3, 4, 2}, []int{1, 3, 4, 2}},
		{0, []int{1, 3, 5, 2}, []int{1, 3}},
		{0, []int{1, 3, 3, 2}, []int{1, 3}},
		{0, []int{1, 3, 3, 1}, []int{1, 3}},
		{0, []int{1, 3, 2, 7}, []int{1, 3}},
		{0, []int{1, 3, 4, 0}, []int{1, 3, 4, 0}},
		{0, []int{1, 3, 5, 0}, []int{1, 3}},
		{0, []int{1, 3, 3, 0}, []int{1, 3}},
		{2, []int{1, 3, 3, 0}, []int{1, 3}},
		{2, []int{1, 3, 2, 5}, []int{1, 3}},
		// What follows one that was removed.
		{0, []int{1, 3, 5, 2, 7, 2}, []int{1, 3}},
		{0, []int{1, 3, 2, 4, 4, 3, 7, 1}, []int{1, 3, 4, 3, 7, 1}},
		{0, []int{2, 3, 5, 2}, nil},
		// Segments before the floor do not count, not even if there is a gap behind them.
		{7, []int{1, 3, 6, 4}, []int{6, 4}},
		{7, []int{1, 3, 8, 4}, []int{8, 4}},
		{7, []int{1, 3, 5, 2, 8, 4, 12, 1}, []int{8, 4, 12, 1}},
		{7, []int{1, 3, 9, 4}, nil},
		{5, []int{1, 5, 3, 6}, []int{3, 6}},
		// One without events is left only if it is the last one.
		{3, []int{4, 0, 5, 2}, nil},
		{4, []int{4, 0, 5, 2}, []int{5, 2}},
		{7, []int{4, 0, 8, 2}, []int{8, 2}},
		{7, []int{4, 0, 8, 0}, []int{8, 0}},
		{0, []int{1, 0, 2, 2}, nil},
		{0, []int{1, 2, 3, 0, 4, 2}, []int{1, 2}},
	} {
		c.check(t)
	}
}

// TestOpenLeavesOtherFiles: those of other writers, and those that are no segments.
func TestOpenLeavesOtherFiles(t *testing.T) {
	others := []string{
		nameOf(0, 1), "no segment", nameOf(2, 5), title(2, 5), nameOf(4, 1), "", nameOf(30, 1), "x", nameOf(33, 7), title(33, 1),
		"feed-3", "x", "feed-", "x", "feed3-", "x", "feed", "", "manifest", "x", "fold-3", title(3, 1), "x-feed-3-0000000000000001", "x",
		"3", "x", "3-0000000000000001", "x", "feed--3-0000000000000001", "x", "feed-03-0000000000000001", "x", "feed.3-0000000000000001", "x",
	}
	for _, c := range []openCase{
		{0, nil, nil},
		{0, []int{1, 3, 4, 2}, []int{1, 3, 4, 2}},
		{3, []int{1, 3, 4, 2}, []int{4, 2}},
		{9, []int{1, 3, 4, 2}, nil},
	} {
		d := with(t, slices.Concat(parts(c.files...), others)...)
		f := opened(t, d, 60, c.floor, 0)
		wantFiles(t, d, slices.Concat(parts(c.left...), others)...)
		if f.Segments() != len(c.left)/2 {
			t.Errorf("%d segments", f.Segments())
		}
	}
}

// bad returns contents with which the file of a segment of writer 3 cannot be opened.
func bad(first uint64) []string {
	whole := file(3, first, run(first, 2)...)
	wrong := []byte(whole)
	wrong[3] ^= 1
	return []string{
		"",
		"no segment",
		whole[:1],
		title(3, first)[:len(title(3, first))-1],
		string(wrong),
		file(4, first, run(first, 2)...),
		file(3, first+1, run(first+1, 2)...),
		head('f', 3, first),
		"\xff\xff\xff\x7f" + whole,
	}
}

// TestOpenRemovesWhatCannotBeOpened: what follows it is compared with the segment before it.
func TestOpenRemovesWhatCannotBeOpened(t *testing.T) {
	for _, c := range []struct {
		openCase
		bad uint64
	}{
		{openCase{0, nil, nil}, 1},
		{openCase{5, nil, nil}, 3},
		{openCase{5, nil, nil}, 6},
		{openCase{0, []int{1, 3}, []int{1, 3}}, 4},
		{openCase{0, []int{1, 3, 6, 2}, []int{1, 3}}, 4},
		{openCase{0, []int{1, 3, 4, 2}, []int{1, 3, 4, 2}}, 2},
		{openCase{0, []int{3, 2}, nil}, 1},
		{openCase{2, []int{3, 2}, []int{3, 2}}, 1},
		{openCase{2, []int{3, 2, 5, 0}, []int{3, 2, 5, 0}}, 1},
		{openCase{2, []int{3, 2, 5, 0}, []int{3, 2, 5, 0}}, 4},
		{openCase{4, []int{1, 3, 5, 2}, []int{5, 2}}, 4},
		{openCase{9, []int{1, 3, 4, 6}, nil}, 8},
	} {
		for _, p := range bad(c.bad) {
			c.check(t, nameOf(3, c.bad), p)
		}
	}
}

// TestOpenMends: what follows the events of a segment is cut off, and what followed the events that were there does not follow any more.
func TestOpenMends(t *testing.T) {
	l := run(1, 6)
	first, second := file(3, 1, l[:3]...), file(3, 4, l[3:]...)
	for n := len(title(3, 1)); n < len(first); n++ {
		have := 0
		for have < 3 && len(file(3, 1, l[:have+1]...)) <= n {
			have++
		}
		d := with(t, nameOf(3, 1), first[:n])
		wantFeed(t, opened(t, d, 60, 0, 5), 0, 5, 1, l[:have]...)
		wantFiles(t, d, nameOf(3, 1), file(3, 1, l[:have]...))
		d = with(t, nameOf(3, 1), first[:n], nameOf(3, 4), second)
		if have == 0 {
			wantFeed(t, opened(t, d, 60, 0, 5), 0, 5, 0)
			wantFiles(t, d)
			continue
		}
		wantFeed(t, opened(t, d, 60, 0, 5), 0, 5, 1, l[:have]...)
		wantFiles(t, d, nameOf(3, 1), file(3, 1, l[:have]...))
	}
	for n := len(title(3, 4)); n < len(second); n++ {
		d := with(t, nameOf(3, 1), first, nameOf(3, 4), second[:n])
		f := opened(t, d, 60, 2, 5)
		if f.Next() <= 3 || f.Segments() != 2 || f.Next() > 6 {
			t.Errorf("Next = %d, %d segments", f.Next(), f.Segments())
		}
		wantFeed(t, f, 2, 5, 2, l[2:f.Next()-1]...)
		wantFiles(t, d, nameOf(3, 1), first, nameOf(3, 4), file(3, 4, l[3:f.Next()-1]...))
	}
	d := with(t, nameOf(3, 1), first+"torn", nameOf(3, 4), second+record(l[0]), nameOf(3, 7), title(3, 7)+record(l[0]))
	wantFeed(t, opened(t, d, 60, 0, 5), 0, 5, 3, l...)
	wantFiles(t, d, nameOf(3, 1), first, nameOf(3, 4), second, nameOf(3, 7), title(3, 7))
}

// TestOpenDoesNotExamineTimes: neither their order, nor whether they are after the time that is passed.
func TestOpenDoesNotExamineTimes(t *testing.T) {
	l := run(1, 4)
	for i := range l {
		l[i].Time = 100 - l[i].Seq
	}
	d := with(t, nameOf(3, 1), file(3, 1, l[:2]...), nameOf(3, 3), file(3, 3, l[2:]...))
	for floor := range uint64(4) {
		wantFeed(t, opened(t, d, 60, floor, 1000), floor, 1000, 2-int(floor/2), l[floor:]...)
	}
}

// TestOpenAtWhichTheDiskStops: there is no feed then, and after a crash Open finds what it would have found.
func TestOpenAtWhichTheDiskStops(t *testing.T) {
	torn := []string{nameOf(3, 9), file(3, 9, run(9, 2)...) + "torn"}
	files := slices.Concat(parts(1, 3, 4, 2, 6, 3), torn, part(11, 2), part(12, 2), part(14, 0), []string{nameOf(3, 15), "no segment"})
	left := slices.Concat(part(6, 3), parts(9, 2, 11, 2))
	const operations = 6
	for stop := range operations {
		for _, keep := range []int{-1, 0, 3, wide} {
			d := with(t, files...)
			acts := d.Acts()
			d.Arm(stop, 2)
			f, e := feed.Open(d, 3, 60, 5, 7)
			wantNoFeed(t, f, e, api.ErrStop)
			if d.Acts()-acts != stop+1 {
				t.Errorf("%d operations, want %d", d.Acts()-acts, stop+1)
			}
			f, e = feed.Open(d, 3, 60, 5, 7)
			wantNoFeed(t, f, e, api.ErrStop)
			d.Crash(keep)
			wantFeed(t, opened(t, d, 60, 5, 7), 5, 7, 3, run(6, 3)[0], run(6, 3)[1], run(6, 3)[2], run(9, 2)[0], run(9, 2)[1], run(11, 2)[0], run(11, 2)[1])
			wantFiles(t, d, left...)
		}
	}
	d := with(t, files...)
	d.Arm(operations, 2)
	opened(t, d, 60, 5, 7)
	wantFiles(t, d, left...)
}

// TestOpenOfAnything is P1: whatever the files are, what is left is a feed, and Open finds it again.
func TestOpenOfAnything(t *testing.T) {
	r := newRandom(91)
	events := 0
	for range 20000 {
		d := disk.New(wide)
		for range r.Intn(7) {
			first := uint64(r.Intn(6))
			var l []api.Event
			for i := range uint64(r.Intn(4)) {
				l = append(l, randomEvent(r, 3, first+i, 1+r.Uint64()%50))
			}
			p := []byte(file(3, first, l...))
			if r.Intn(6) == 0 {
				p[r.Intn(len(p))] ^= 1 << r.Intn(8)
			}
			if r.Intn(6) == 0 {
				p = p[:r.Intn(len(p))]
			}
			name := nameOf(3, first)
			d.Remove(name)
			d.Append(name, p)
		}
		floor := uint64(r.Intn(6))
		f := opened(t, d, 60, floor, 5)
		l, names := f.All(), d.Names("")
		wantFeed(t, f, floor, 5, len(names), l...)
		for i, e := range l {
			if e.Writer != 3 || e.Seq != floor+1+uint64(i) {
				t.Fatalf("event %d after %d is %v", i, floor, e)
			}
		}
		wantFeed(t, opened(t, d, 60, floor, 5), floor, 5, len(names), l...)
		if !slices.Equal(d.Names(""), names) || t.Failed() {
			t.Fatalf("names %q became %q", names, d.Names(""))
		}
		events += len(l)
	}
	if events < 10000 {
		t.Errorf("only %d events", events)
	}
}

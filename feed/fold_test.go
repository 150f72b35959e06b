package feed_test

import (
	"math"
	"slices"
	"testing"

	"anabranch/api"
	"anabranch/disk"
	"anabranch/feed"
)

// The tests of P9.3 that are about Fold.

// kept returns those of the files of split(size, l...) that are left when floor events are folded.
func kept(floor uint64, size int, l ...api.Event) []string {
	files := split(size, l...)
	for len(files) > 2 && files[2] <= nameOf(3, floor+1) {
		files = files[2:]
	}
	return files
}

// copied returns a disk with the files of another one, durable.
func copied(t *testing.T, d *disk.Disk) *disk.Disk {
	t.Helper()
	var files []string
	for _, name := range d.Names("") {
		p, e := d.Read(name)
		wantError(t, "Read", e, api.OK)
		files = append(files, name, string(p))
	}
	return with(t, files...)
}

// TestFold folds up to each event, in one step and in two.
func TestFold(t *testing.T) {
	l := append(run(1, 7), full(api.Retire, 8))
	for _, size := range []int{0, sizeOf(1, 2), sizeOf(1, 3), sizeOf(1, 4), large} {
		for floor := range uint64(len(l) + 1) {
			for before := range floor + 1 {
				f, d := begun(t, size, l...)
				acts := d.Acts()
				wantError(t, "Fold", f.Fold(before, 3), api.OK)
				wantError(t, "Fold", f.Fold(floor, 2), api.OK)
				files := kept(floor, size, l...)
				wantFeed(t, f, floor, 3, len(files)/2, l[floor:]...)
				wantFiles(t, d, files...)
				if gone := (len(split(size, l...)) - len(files)) / 2; d.Acts()-acts != gone {
					t.Errorf("%d operations, want %d", d.Acts()-acts, gone)
				}
				c := copied(t, d)
				if floor == uint64(len(l)) { // Open does not need the last segment, either
					files = nil
				}
				wantFeed(t, opened(t, c, size, floor, 3), floor, 3, len(files)/2, l[floor:]...)
				wantFiles(t, c, files...)
				if t.Failed() {
					t.Fatalf("size %d, from %d to %d", size, before, floor)
				}
			}
		}
	}
}

// TestFoldAndAdd: the last segment goes on, though all its events may be folded.
func TestFoldAndAdd(t *testing.T) {
	l := run(1, 9)
	for _, size := range []int{0, sizeOf(1, 2), sizeOf(1, 3), large} {
		f, d := begun(t, size)
		for i, e := range l {
			wantError(t, "Add", f.Add(e), api.OK)
			wantError(t, "Sync", f.Sync(), api.OK)
			all := uint64(i + 1)
			wantFeed(t, f, all-1, 0, f.Segments(), e)
			wantError(t, "Fold", f.Fold(all, e.Time), api.OK)
			files := kept(all, size, l[:i+1]...)
			wantFeed(t, f, all, e.Time, len(files)/2)
			wantFiles(t, d, files...)
			if len(files) != 2 {
				t.Errorf("%d files", len(files)/2)
			}
		}
	}
}

// TestFoldRefused: nothing has changed then, and nothing was asked of the disk.
func TestFoldRefused(t *testing.T) {
	l := run(1, 5)
	for _, size := range []int{0, sizeOf(1, 2), large} {
		for floor := range uint64(6) {
			f, d := begun(t, size, l...)
			wantError(t, "Fold", f.Fold(floor, 7), api.OK)
			files, acts := kept(floor, size, l...), d.Acts()
			for _, n := range []uint64{0, 1, 2, 3, 4, 6, 7, 100, api.End, math.MaxUint64} {
				if n < floor || n > 5 {
					wantError(t, "Fold", f.Fold(n, 1000), api.ErrArg)
					wantFeed(t, f, floor, 7, len(files)/2, l[floor:]...)
				}
			}
			wantFiles(t, d, files...)
			if d.Acts() != acts {
				t.Errorf("%d operations", d.Acts()-acts)
			}
		}
	}
}

// TestFoldOfAnEmptyFeed: there is nothing to fold, but the time counts.
func TestFoldOfAnEmptyFeed(t *testing.T) {
	for _, floor := range []uint64{0, 4, api.End} {
		for _, files := range [][]string{nil, part(1, 0)} {
			d := with(t, files...)
			f := opened(t, d, 60, floor, 5)
			wantError(t, "Fold", f.Fold(floor, 9), api.OK)
			wantError(t, "Fold", f.Fold(floor+1, 100), api.ErrArg)
			wantError(t, "Fold", f.Fold(floor-1, 100), api.ErrArg)
			wantFeed(t, f, floor, 9, len(files)/2)
			wantFiles(t, d, files...)
		}
	}
}

// TestFoldOfWhatIsNotDurable: it does not matter which events are to be folded.
func TestFoldOfWhatIsNotDurable(t *testing.T) {
	for _, size := range []int{0, sizeOf(1, 2), large} {
		for n := range 6 {
			l := run(1, n+1)
			f, d := begun(t, size, l[:n]...)
			wantError(t, "Add", f.Add(l[n]), api.OK)
			for floor := range uint64(n + 2) {
				wantError(t, "Fold", f.Fold(floor, 1000), api.ErrArg)
				g := opened(t, d, size, 0, 0)
				wantError(t, "Fold", g.Fold(floor, 1000), api.ErrArg)
			}
			wantFeed(t, f, 0, 0, f.Segments(), l...)
			wantFiles(t, d, split(size, l...)...)
			wantError(t, "Sync", f.Sync(), api.OK)
			wantError(t, "Fold", f.Fold(uint64(n+1), 1000), api.OK)
			wantFeed(t, f, uint64(n+1), 1000, 1)
		}
	}
}

// TestFoldRemovesWhatHasNoEvents: a segment without events, behind which another one begins.
func TestFoldRemovesWhatHasNoEvents(t *testing.T) {
	d := with(t, part(4, 0)...)
	f := opened(t, d, 60, 7, 0)
	wantError(t, "Add", f.Add(full(api.Drop, 8)), api.OK)
	wantError(t, "Sync", f.Sync(), api.OK)
	wantFeed(t, f, 7, 0, 2, full(api.Drop, 8))
	wantError(t, "Fold", f.Fold(7, 0), api.OK)
	wantFeed(t, f, 7, 0, 1, full(api.Drop, 8))
	wantFiles(t, d, nameOf(3, 8), file(3, 8, full(api.Drop, 8)))
}

// TestFoldLeavesOtherFiles: those of other writers, and those that are no segments.
func TestFoldLeavesOtherFiles(t *testing.T) {
	others := []string{nameOf(30, 1), "x", nameOf(0, 1), title(0, 1), "feed-3", "x", "manifest", "x", "fold-1", "x"}
	d := with(t, slices.Concat(parts(1, 3, 4, 2, 6, 3), others)...)
	f := opened(t, d, 60, 0, 0)
	wantError(t, "Fold", f.Fold(6, 60), api.OK)
	wantFiles(t, d, slices.Concat(part(6, 3), others)...)
}

// TestFoldAtWhichTheDiskStops: after a crash, Open finds the same, whether with the old floor or with the new one.
func TestFoldAtWhichTheDiskStops(t *testing.T) {
	l := run(1, 7)
	for stop := range 6 {
		for _, keep := range []int{-1, 0, wide} {
			f, d := begun(t, 0, l...)
			d.Arm(stop, 2)
			wantError(t, "Fold", f.Fold(6, 60), api.ErrStop)
			d.Crash(keep)
			wantFeed(t, opened(t, copied(t, d), 0, uint64(stop), 10), uint64(stop), 10, 7-stop, l[stop:]...)
			wantFeed(t, opened(t, d, 0, 6, 60), 6, 60, 1, l[6:]...)
			wantFiles(t, d, nameOf(3, 7), file(3, 7, l[6]))
		}
	}
	f, d := begun(t, 0, l...)
	d.Arm(6, 2)
	wantError(t, "Fold", f.Fold(6, 60), api.OK)
	wantFeed(t, f, 6, 60, 1, l[6:]...)
}

// TestCallsAfterTheDiskStopped is P1: they terminate and do not panic.
func TestCallsAfterTheDiskStopped(t *testing.T) {
	for stop := range 14 {
		for _, size := range []int{0, sizeOf(1, 2), large} {
			f, d := begun(t, size, run(1, 3)...)
			d.Arm(stop, stop*7)
			for n := range uint64(20) {
				f.Add(full(api.Drop, 4+n/2))
				f.Sync()
				f.Fold(n/3, n)
				f.Get(n)
				f.Range(n, 5)
			}
			if f.Writer() != 3 || d.On() && stop < 3 {
				t.Errorf("writer %d", f.Writer())
			}
			f.All()
			f.Floor()
			f.Next()
			f.Time()
			f.Sealed()
			f.Segments()
			d.Crash(1)
			opened(t, d, size, 0, 0)
		}
	}
}

// TestFeedsAreIndependent is P2: each on its own disk, or for its own writer.
func TestFeedsAreIndependent(t *testing.T) {
	d := disk.New(wide)
	var feeds [api.MaxNodes]*feed.Feed
	for writer := range feeds {
		f, e := feed.Open(d, writer, writer*3, uint64(writer), 5)
		wantError(t, "Open", e, api.OK)
		feeds[writer] = f
	}
	f, c := begun(t, 60, run(1, 4)...)
	for i := range uint64(5) {
		for writer, f := range feeds {
			e := change(full(api.Set, uint64(writer)+1+i), func(e *api.Event) { e.Writer = writer })
			wantError(t, "Add", f.Add(e), api.OK)
			if writer%2 == 0 {
				wantError(t, "Sync", f.Sync(), api.OK)
				wantError(t, "Fold", f.Fold(e.Seq-1, 0), api.OK)
			}
		}
	}
	for writer, f := range feeds {
		g, e := feed.Open(copied(t, d), writer, 60, f.Floor(), 5)
		wantError(t, "Open", e, api.OK)
		wantEvents(t, "All", g.All(), f.All())
		if len(f.All()) != 1+writer%2*4 || f.Next() != uint64(writer)+6 {
			t.Errorf("%d events, next %d", len(f.All()), f.Next())
		}
	}
	wantFeed(t, f, 0, 0, f.Segments(), run(1, 4)...)
	wantFiles(t, c, split(60, run(1, 4)...)...)
}

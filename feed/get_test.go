package feed_test

import (
	"math"
	"testing"

	"anabranch/api"
	"anabranch/disk"
	"anabranch/feed"
)

// The tests of P9.2. Most of it is in wantFeed.

// TestNilFeed has the answers of a feed that there is not (P9.3).
func TestNilFeed(t *testing.T) {
	var f *feed.Feed
	for range 2 {
		if f.Writer() != 0 || f.Floor() != 0 || f.Next() != 1 || f.Time() != 0 || len(f.All()) != 0 || f.Sealed() || f.Segments() != 0 {
			t.Errorf("%d, %d, %d, %d, %v, %v, %d", f.Writer(), f.Floor(), f.Next(), f.Time(), f.All(), f.Sealed(), f.Segments())
		}
		for _, n := range []uint64{0, 1, 2, api.End, math.MaxUint64} {
			wantNone(t, f, n, api.ErrNone)
			wantError(t, "Fold", f.Fold(n, n), api.ErrArg)
		}
		for _, e := range []api.Event{{}, {Seq: 1, Time: 1, Kind: api.Retire}, full(api.Set, 1), full(api.Set, 7)} {
			wantError(t, "Add", f.Add(e), api.ErrNone)
		}
		wantError(t, "Sync", f.Sync(), api.OK)
	}
}

// TestAnswers asks a feed of several segments, and one of which events in the first segment are folded.
func TestAnswers(t *testing.T) {
	l := run(1, 20)
	for _, size := range []int{0, 60, 200, sizeOf(1, 7), large} {
		f, d := begun(t, size, l...)
		parts := f.Segments()
		wantFeed(t, f, 0, 0, parts, l...)
		wantError(t, "Fold", f.Fold(4, 40), api.OK)
		wantFeed(t, f, 4, 40, f.Segments(), l[4:]...)
		wantFeed(t, opened(t, d, size, 4, 40), 4, 40, f.Segments(), l[4:]...)
	}
}

// TestZeroIsNoNumber: events are numbered from 1 on, so there is no event 0, whatever is folded; it is not above the floor, either,
// but ErrNone is the lower error.
func TestZeroIsNoNumber(t *testing.T) {
	const n = 5
	for _, size := range []int{0, sizeOf(1, 2), large} {
		for floor := range uint64(n + 1) {
			f, d := begun(t, size, run(1, n)...)
			wantNone(t, f, 0, api.ErrNone)
			wantError(t, "Fold", f.Fold(floor, 10*floor), api.OK)
			for _, f := range []*feed.Feed{f, opened(t, d, size, floor, 10*floor)} {
				wantNone(t, f, 0, api.ErrNone)
				for seq := uint64(1); seq <= floor; seq++ {
					wantNone(t, f, seq, api.ErrFolded)
				}
				wantNone(t, f, n+1, api.ErrNone)
			}
		}
	}
	wantNone(t, opened(t, disk.New(wide), 0, 0, 0), 0, api.ErrNone)
}

// TestRangeOverSegments: a range may begin and end in any of them.
func TestRangeOverSegments(t *testing.T) {
	d := with(t, parts(3, 2, 5, 1, 6, 4, 10, 0)...)
	f := opened(t, d, 60, 3, 0)
	l := run(3, 2)[1:]
	l = append(append(l, run(5, 1)...), run(6, 4)...)
	for from := range l {
		for most := range len(l) + 2 {
			got, e := f.Range(uint64(4+from), most)
			wantError(t, "Range", e, api.OK)
			wantEvents(t, "Range", got, l[from:min(from+most, len(l))])
		}
	}
	wantNone(t, f, 3, api.ErrFolded)
	wantNone(t, f, 10, api.ErrNone)
}

// TestSealed: it is the last event after the floor that matters.
func TestSealed(t *testing.T) {
	for _, c := range []struct {
		kinds string // of the events from 1 on
		floor uint64
		want  bool
	}{
		{"", 0, false},
		{"\x01", 0, false},
		{"\x06", 0, true},
		{"\x06", 1, false},
		{"\x01\x06", 0, true},
		{"\x01\x06", 1, true},
		{"\x01\x06", 2, false},
		{"\x06\x01", 0, false},
		{"\x06\x01", 1, false},
		{"\x06\x06", 1, true},
		{"\x05", 0, false},
	} {
		var l []api.Event
		for i, kind := range []byte(c.kinds) {
			l = append(l, full(kind, uint64(i+1)))
		}
		d := with(t, nameOf(3, 1), file(3, 1, l...))
		if got := opened(t, d, 60, c.floor, 5).Sealed(); got != c.want {
			t.Errorf("kinds %q after %d: %v", c.kinds, c.floor, got)
		}
		d = with(t, nameOf(3, 1), file(3, 1, l...))
		f := opened(t, d, 60, 0, 5)
		wantError(t, "Fold", f.Fold(c.floor, 5), api.OK)
		if got := f.Sealed(); got != c.want {
			t.Errorf("kinds %q, folded up to %d: %v", c.kinds, c.floor, got)
		}
	}
}

// TestTime: as long as there are events after the floor, only the last one matters; then, the greatest time that was passed.
func TestTime(t *testing.T) {
	for _, c := range []struct {
		open, fold1, fold2, want uint64
	}{
		{0, 0, 0, 0},
		{50, 0, 0, 50},
		{0, 50, 0, 50},
		{0, 0, 50, 50},
		{50, 40, 30, 50},
		{30, 50, 40, 50},
		{30, 40, 50, 50},
		{5, 6, math.MaxUint64, math.MaxUint64},
	} {
		d := with(t, parts(1, 3)...)
		f := opened(t, d, 60, 0, c.open)
		wantFeed(t, f, 0, 0, 1, run(1, 3)...)
		wantError(t, "Fold", f.Fold(2, c.fold1), api.OK)
		wantFeed(t, f, 2, 0, 1, run(1, 3)[2:]...)
		wantError(t, "Fold of too many", f.Fold(4, math.MaxUint64), api.ErrArg)
		wantError(t, "Fold of less", f.Fold(1, math.MaxUint64), api.ErrArg)
		wantError(t, "Fold", f.Fold(3, c.fold2), api.OK)
		wantFeed(t, f, 3, c.want, 1)
	}
}

// TestAnswersMayBeAppendedTo is the rule on memory: that changes neither the feed nor another answer, nor what is added afterwards.
func TestAnswersMayBeAppendedTo(t *testing.T) {
	for n := 1; n < 20; n++ {
		l := run(1, n+1)
		f, _ := begun(t, large, l[:n]...)
		other, third := plain(full(api.Drop, 77)), plain(full(api.Join, 78))
		all := append(f.All(), other)
		part, _ := f.Range(1, n-1)
		part = append(part, other)
		again := append(f.All(), third)
		wantFeed(t, f, 0, 0, 1, l[:n]...)
		wantError(t, "Add", f.Add(l[n]), api.OK)
		wantFeed(t, f, 0, 0, 1, l...)
		wantEvents(t, "what was appended to All", all[n:], []api.Event{other})
		wantEvents(t, "what was appended to Range", part[n-1:], []api.Event{other})
		wantEvents(t, "what was appended to All again", again[n:], []api.Event{third})
		for i, e := range f.All() {
			a := append(e.Text, 'a')
			_ = append(f.All()[i].Text, 'b')
			if a[len(e.Text)] != 'a' {
				t.Errorf("what was appended to the text of event %d became %q", i, a[len(e.Text)])
			}
		}
	}
}

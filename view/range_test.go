package view_test

import (
	"math"
	"slices"
	"testing"

	"anabranch/api"
	"anabranch/view"
)

// The tests of Len, At and Range (P15.2). All of them are checked for all histories by wantView.

// ranged returns a history of nine events, of which those up to 4.1 are folded by the tests.
func ranged() history {
	h := history{name: "ranged", nodes: 3}
	for _, s := range []api.Spot{spot(2, 0), spot(2, 2), spot(4, 0), spot(4, 1), spot(4, 2), spot(5, 0), spot(8, 1), spot(8, 2), spot(9, 0)} {
		h.add(s.Time, s.Writer, set("k", "x"))
	}
	return h
}

// TestAt: the first and the last index, and those outside.
func TestAt(t *testing.T) {
	h := ranged()
	v := by(t, h, 4)
	if v.Len() != 5 {
		t.Fatalf("Len() = %d", v.Len())
	}
	for i, want := range []api.Spot{spot(4, 2), spot(5, 0), spot(8, 1), spot(8, 2), spot(9, 0)} {
		if e, ok := v.At(i); !ok || place(e) != want || !same(e, h.l[4+i]) {
			t.Errorf("At(%d) = %v, %v, want %v", i, e, ok, want)
		}
	}
	for _, i := range []int{math.MinInt, -5, -1, 5, 6, 9, math.MaxInt} {
		if e, ok := v.At(i); ok || !same(e, api.Event{}) {
			t.Errorf("At(%d) = %v, %v", i, e, ok)
		}
	}
}

// TestAtOfNoEvents: there is none at any index, also if the fold has some.
func TestAtOfNoEvents(t *testing.T) {
	for _, v := range []*view.View{by(t, history{nodes: 2}, 0), by(t, ranged(), 9)} {
		if v.Len() != 0 {
			t.Errorf("Len() = %d", v.Len())
		}
		for _, i := range []int{math.MinInt, -1, 0, 1, 9, math.MaxInt} {
			if e, ok := v.At(i); ok || !same(e, api.Event{}) {
				t.Errorf("At(%d) = %v, %v", i, e, ok)
			}
		}
	}
}

// TestRangePlaces: each kind of place, with numbers that are written out.
func TestRangePlaces(t *testing.T) {
	all := []api.Spot{spot(4, 2), spot(5, 0), spot(8, 1), spot(8, 2), spot(9, 0)}
	v := by(t, ranged(), 4)
	for _, c := range []struct {
		what  string
		s     api.Spot
		first int // of all
	}{
		{"the fold's Last", spot(4, 1), 0},
		{"the first event", spot(4, 2), 1},
		{"between two events, at the time of the first one", spot(4, 3), 1},
		{"between two events, at the time of the second one", spot(5, -1), 1},
		{"an event", spot(5, 0), 2},
		{"between two events", spot(6, 0), 2},
		{"between two events, far above the writers", spot(7, 63), 2},
		{"between two events, at the time of both", spot(8, 1), 3},
		{"just before two of the same time", spot(8, 0), 2},
		{"before the last one", spot(8, 2), 4},
		{"the last event", spot(9, 0), 5},
		{"behind all, at the same time", spot(9, 1), 5},
		{"behind all", spot(10, 0), 5},
		{"behind everything", spot(math.MaxUint64, math.MaxInt), 5},
	} {
		for _, most := range []int{math.MinInt, -5, -1, 0, 1, 2, 3, 4, 5, 6, 99, math.MaxInt} {
			want := all[c.first:min(len(all), c.first+max(0, min(most, len(all))))]
			if l, e := v.Range(c.s, most); e != api.OK || !slices.Equal(brief(l), want) {
				t.Errorf("Range behind %s, at most %d = %v, %d, want %v", c.what, most, brief(l), e, want)
			}
		}
	}
}

// TestRangeOfFolded: from before the fold's Last, if only by the writer, whatever most is, and whether or not there are events.
func TestRangeOfFolded(t *testing.T) {
	h := ranged()
	for _, v := range []*view.View{by(t, h, 4), by(t, h.first(4), 4)} {
		for _, s := range []api.Spot{{}, spot(0, -1), spot(0, 63), spot(1, 0), spot(2, 0), spot(2, 2), spot(3, 63), spot(3, math.MaxInt), spot(4, math.MinInt), spot(4, -1), spot(4, 0)} {
			for _, most := range []int{math.MinInt, -1, 0, 1, 5, math.MaxInt} {
				if l, e := v.Range(s, most); len(l) != 0 || e != api.ErrFolded {
					t.Errorf("Range(%v, %d) = %v, %d", s, most, brief(l), e)
				}
			}
		}
		for _, s := range []api.Spot{spot(4, 1), spot(4, 2), spot(5, -1), spot(9, 0), spot(math.MaxUint64, 0)} {
			if _, e := v.Range(s, 1); e != api.OK {
				t.Errorf("Range(%v, 1): %d", s, e)
			}
		}
	}
}

// TestRangeFromTheBeginning: before any event the fold's Last is at time 0, of writer 0, so that nothing but a writer below 0
// is before it.
func TestRangeFromTheBeginning(t *testing.T) {
	h := ranged()
	v := by(t, h, 0)
	for _, s := range []api.Spot{{}, spot(0, 1), spot(0, 63), spot(1, 0), spot(1, math.MinInt), spot(2, -1)} {
		if l, e := v.Range(s, math.MaxInt); e != api.OK || !slices.EqualFunc(l, h.l, same) {
			t.Errorf("Range(%v) = %v, %d", s, brief(l), e)
		}
	}
	for _, s := range []api.Spot{spot(0, -1), spot(0, math.MinInt)} {
		if l, e := v.Range(s, math.MaxInt); len(l) != 0 || e != api.ErrFolded {
			t.Errorf("Range(%v) = %v, %d", s, brief(l), e)
		}
	}
}

// TestRangesMakeAll: each from the last position of the one before it, the first one from the fold's Last.
func TestRangesMakeAll(t *testing.T) {
	for _, h := range histories() {
		folded := len(h.l) / 3
		v := by(t, h, folded)
		for _, most := range []int{1, 2, 3, 7} {
			var got []api.Event
			s := v.Base().Last()
			for {
				l, e := v.Range(s, most)
				wantOK(t, "Range", e)
				if len(l) == 0 {
					break
				}
				got, s = append(got, l...), place(l[len(l)-1])
			}
			if !slices.EqualFunc(got, h.l[folded:], same) {
				t.Errorf("%s, %d at a time: %v", h.name, most, brief(got))
			}
		}
	}
}

// TestAtIsRange: an event by its index is the one behind its predecessor.
func TestAtIsRange(t *testing.T) {
	for _, h := range histories() {
		v := by(t, h, len(h.l)/2)
		s := v.Base().Last()
		for i := range v.Len() {
			x, ok := v.At(i)
			l, e := v.Range(s, 1)
			if !ok || e != api.OK || len(l) != 1 || !same(l[0], x) {
				t.Errorf("%s: At(%d) = %v, %v; Range(%v, 1) = %v, %d", h.name, i, x, ok, s, l, e)
			}
			s = place(x)
		}
	}
}

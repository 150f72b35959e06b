package order_test

import (
	"cmp"
	"fmt"
	"math"
	"math/rand"
	"slices"
	"testing"

	"anabranch/api"
	"anabranch/order"
)

const greatest = math.MaxUint64

// ev returns an event at a place. Its other fields tell it from every event of another place.
func ev(time uint64, w int) api.Event {
	key := fmt.Sprint(time, ".", w)
	return api.Event{Writer: w, Seq: time + 7, Time: time, Kind: byte(1 + time%6), Key: key, Text: []byte("text " + key), Num: float64(time) / 8, Node: w + 1}
}

// list returns events of one writer.
func list(w int, times ...uint64) []api.Event {
	var l []api.Event
	for _, time := range times {
		l = append(l, ev(time, w))
	}
	return l
}

// spot returns a place.
func spot(time uint64, w int) api.Spot {
	return api.Spot{Time: time, Writer: w}
}

// place returns that of an event.
func place(e api.Event) api.Spot {
	return spot(e.Time, e.Writer)
}

// versus is below 0 if a comes before b, as P6.3 says it.
func versus(a, b api.Spot) int {
	if a.Time != b.Time {
		return cmp.Compare(a.Time, b.Time)
	}
	return cmp.Compare(a.Writer, b.Writer)
}

// merged returns all events of lists in order, made without the program's packages.
func merged(lists [][]api.Event) []api.Event {
	l := slices.Concat(lists...)
	slices.SortFunc(l, func(a, b api.Event) int { return versus(place(a), place(b)) })
	return l
}

// behind returns the events of l that come after s.
func behind(l []api.Event, s api.Spot) []api.Event {
	return slices.DeleteFunc(slices.Clone(l), func(e api.Event) bool { return versus(place(e), s) <= 0 })
}

// clipped returns the first events of l, at most most.
func clipped(l []api.Event, most int) []api.Event {
	return l[:max(0, min(most, len(l)))]
}

// copied returns a copy of lists that shares no memory with them.
func copied(lists [][]api.Event) [][]api.Event {
	c := make([][]api.Event, len(lists))
	for i, l := range lists {
		for _, e := range l {
			e.Text = slices.Clone(e.Text)
			c[i] = append(c[i], e)
		}
	}
	return c
}

// same reports whether two events have the same fields, whether or not their kinds use them.
func same(a, b api.Event) bool {
	return a.Writer == b.Writer && a.Seq == b.Seq && a.Time == b.Time && a.Kind == b.Kind && a.Key == b.Key &&
		string(a.Text) == string(b.Text) && math.Float64bits(a.Num) == math.Float64bits(b.Num) && a.Node == b.Node
}

func sameList(a, b []api.Event) bool {
	return slices.EqualFunc(a, b, same)
}

func sameLists(a, b [][]api.Event) bool {
	return slices.EqualFunc(a, b, sameList)
}

// brief returns the places of some events.
func brief(l []api.Event) []api.Spot {
	var places []api.Spot
	for _, e := range l {
		places = append(places, place(e))
	}
	return places
}

// drained returns what a cursor gives one by one.
func drained(t *testing.T, c *order.Cursor) []api.Event {
	t.Helper()
	var l []api.Event
	for {
		e, ok := c.Next()
		if !ok {
			if !same(e, api.Event{}) {
				t.Errorf("Next() at the end = %v", e)
			}
			return l
		}
		l = append(l, e)
	}
}

func wantEvents(t *testing.T, what string, got, want []api.Event) {
	t.Helper()
	if !sameList(got, want) {
		t.Fatalf("%s: %d events: %v, want %d: %v", what, len(got), brief(clipped(got, 20)), len(want), brief(clipped(want, 20)))
	}
}

// group is lists with a name.
type group struct {
	name  string
	lists [][]api.Event
}

// groups returns lists of each kind that the chapter allows.
func groups() []group {
	several := []api.Event{ev(1, 3), ev(1, 5), ev(2, 0), ev(2, 9), ev(7, 3)}
	var equal, turns, long [][]api.Event
	for w := range 64 {
		equal = append(equal, list(63-w, 4, 5))
		turns = append(turns, list(w, uint64(w)+1, uint64(w)+65, uint64(w)+129))
		long = append(long, nil)
	}
	for i := range uint64(300) {
		w := i * i * 7 % 11
		long[w] = append(long[w], ev(i/3+1, int(w)))
	}
	for w, l := range long {
		long[w] = slices.CompactFunc(l, func(a, b api.Event) bool { return place(a) == place(b) })
	}
	l := []group{
		{"the example", [][]api.Event{{ev(1, 0), ev(3, 0)}, {ev(2, 1)}}},
		{"nil lists", nil},
		{"no lists", [][]api.Event{}},
		{"a nil list", [][]api.Event{nil}},
		{"an empty list", [][]api.Event{{}}},
		{"nil and empty lists", [][]api.Event{nil, {}, nil, {}}},
		{"one list of one event", [][]api.Event{list(5, 3)}},
		{"one list", [][]api.Event{list(2, 1, 2, 5, 9)}},
		{"one list among empty ones", [][]api.Event{nil, {}, list(2, 1, 2, 5, 9), {}, nil}},
		{"lists among empty ones", [][]api.Event{{}, list(1, 2, 4), nil, list(0, 1, 9), {}, list(7, 3), nil}},
		{"one list after the other", [][]api.Event{list(4, 10, 11), list(3, 7, 8, 9), list(2, 1, 2)}},
		{"the same times", [][]api.Event{list(2, 1, 2, 3), list(0, 1, 2, 3), list(1, 1, 2, 3)}},
		{"one list of several writers", [][]api.Event{several}},
		{"lists of several writers", [][]api.Event{{ev(1, 4), ev(2, 1), ev(9, 4)}, several, {ev(0, 0), ev(1, 0), ev(9, 3)}}},
		{"the limits", [][]api.Event{list(0, 0, 1, api.End, greatest), list(63, 0, 1, api.End, greatest), list(-1, 0, greatest), {ev(5, math.MinInt), ev(5, math.MaxInt)}}},
		{"many lists of the same times", equal},
		{"many lists in turns", turns},
		{"long lists", long},
	}
	r := rand.New(rand.NewSource(120))
	for i := range 60 {
		l = append(l, group{fmt.Sprint("random lists ", i), randomLists(r)})
	}
	return l
}

// randomLists returns lists with events at different places, each in order, of one writer or of several ones.
func randomLists(r *rand.Rand) [][]api.Event {
	lists := make([][]api.Event, 1+r.Intn(7))
	times, mixed := uint64(1+r.Intn(12)), r.Intn(2) == 0
	for time := range times {
		for w := range lists {
			if to := r.Intn(2 * len(lists)); to < len(lists) {
				if !mixed {
					to = w
				}
				lists[to] = append(lists[to], ev(time, w))
			}
		}
	}
	return lists
}

// places returns the places of some events, those next to them, and those at the limits, in no order.
func places(l []api.Event) []api.Spot {
	p := []api.Spot{{}, spot(0, math.MinInt), spot(0, -1), spot(0, math.MaxInt), spot(greatest, 0), spot(greatest, math.MinInt), spot(greatest, math.MaxInt), spot(api.End, 63)}
	step := 1 + len(l)/12
	for i := 0; i < len(l); i += step {
		s := place(l[i])
		p = append(p, s, spot(s.Time, s.Writer-1), spot(s.Time, s.Writer+1), spot(s.Time-1, 64), spot(s.Time+1, 0))
	}
	return p
}

// clock returns the times of some events, those next to them, and those at the limits.
func clock(l []api.Event) []uint64 {
	times := []uint64{0, 1, api.End, greatest - 1, greatest}
	for _, e := range l {
		times = append(times, e.Time-1, e.Time, e.Time+1)
	}
	return times
}

// TestGroups: they are what the chapter asks of lists.
func TestGroups(t *testing.T) {
	for _, g := range groups() {
		for _, l := range append(slices.Clone(g.lists), merged(g.lists)) {
			if !slices.IsSortedFunc(l, func(a, b api.Event) int { return versus(place(a), place(b)) }) {
				t.Errorf("%s: a list is not in order", g.name)
			}
		}
		seen := map[api.Spot]int{}
		for _, e := range merged(g.lists) {
			if seen[place(e)]++; seen[place(e)] > 1 {
				t.Errorf("%s: %v occurs twice", g.name, place(e))
			}
		}
	}
}

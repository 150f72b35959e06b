package order_test

import (
	"math"
	"math/rand"
	"slices"
	"testing"

	"anabranch/api"
	"anabranch/order"
)

// The tests of what is told of lists without a cursor (P12.1).

// TestExample: that of the chapter, by its numbers.
func TestExample(t *testing.T) {
	l := order.All([][]api.Event{{ev(1, 0), ev(3, 0)}, {ev(2, 1)}})
	if !slices.Equal(brief(l), []api.Spot{{Time: 1}, {Time: 2, Writer: 1}, {Time: 3}}) {
		t.Errorf("All = %v", brief(l))
	}
}

// TestOrderIsByTimeAndThenByWriter: not by the number, the list, the key or the kind.
func TestOrderIsByTimeAndThenByWriter(t *testing.T) {
	lists := [][]api.Event{
		{{Writer: 9, Seq: 1, Time: 2, Kind: 1, Key: "a"}, {Writer: 9, Seq: 2, Time: 10, Kind: 1, Key: "a"}},
		{{Writer: 10, Seq: 9, Time: 1, Kind: 6}, {Writer: 10, Seq: 10, Time: 2, Kind: 6}},
		{{Writer: 2, Seq: 5, Time: 2, Kind: 4, Key: "z"}, {Writer: 2, Seq: 6, Time: 9, Kind: 4, Key: "z"}},
	}
	want := []api.Spot{spot(1, 10), spot(2, 2), spot(2, 9), spot(2, 10), spot(9, 2), spot(10, 9)}
	if l := order.All(lists); !slices.Equal(brief(l), want) {
		t.Errorf("All = %v, want %v", brief(l), want)
	}
	slices.Reverse(lists)
	if l := order.All(lists); !slices.Equal(brief(l), want) {
		t.Errorf("All of the lists the other way round = %v, want %v", brief(l), want)
	}
}

func TestAll(t *testing.T) {
	for _, g := range groups() {
		l := order.All(g.lists)
		wantEvents(t, g.name, l, merged(g.lists))
		wantEvents(t, g.name+": one by one", l, drained(t, order.New(g.lists)))
	}
}

func TestRange(t *testing.T) {
	for _, g := range groups() {
		all := merged(g.lists)
		for _, s := range places(all) {
			want := behind(all, s)
			n := len(want)
			for _, most := range []int{math.MinInt, -n, -1, 0, 1, 2, n / 2, n - 1, n, n + 1, 2*n + 9, math.MaxInt} {
				wantEvents(t, g.name, order.Range(g.lists, s, most), clipped(want, most))
			}
			c := order.New(g.lists)
			c.Seek(s)
			wantEvents(t, g.name+": one by one", order.Range(g.lists, s, n), drained(t, c))
		}
	}
}

// TestRangePlaces: each kind of place, with numbers that are written out.
func TestRangePlaces(t *testing.T) {
	lists := [][]api.Event{list(0, 2, 5), list(1, 2, 9), list(2, 3)}
	all := []api.Spot{spot(2, 0), spot(2, 1), spot(3, 2), spot(5, 0), spot(9, 1)}
	for _, c := range []struct {
		what  string
		s     api.Spot
		first int // of all
	}{
		{"before all", spot(1, 63), 0},
		{"before all, at the same time", spot(2, -1), 0},
		{"at the first event", spot(2, 0), 1},
		{"at the second one of the same time", spot(2, 1), 2},
		{"between, at the time of an event", spot(2, 40), 2},
		{"between two events", spot(4, 0), 3},
		{"at an event", spot(5, 0), 4},
		{"before the last one, at the same time", spot(9, 0), 4},
		{"at the last event", spot(9, 1), 5},
		{"behind all, at the same time", spot(9, 2), 5},
		{"behind all", spot(10, 0), 5},
	} {
		for most := range 8 {
			want := all[c.first:min(len(all), c.first+most)]
			if l := order.Range(lists, c.s, most); !slices.Equal(brief(l), want) {
				t.Errorf("Range %s, at most %d = %v, want %v", c.what, most, brief(l), want)
			}
		}
		if l := order.Range(lists, c.s, -1); len(l) != 0 {
			t.Errorf("Range %s, at most -1 = %v", c.what, brief(l))
		}
	}
}

// TestRangesMakeAll: each from the last place of the one before it.
func TestRangesMakeAll(t *testing.T) {
	for _, g := range groups() {
		all := merged(g.lists)
		for _, most := range []int{1, 2, 3, 7} {
			var got []api.Event
			s := spot(0, math.MinInt)
			for {
				l := order.Range(g.lists, s, most)
				if len(l) == 0 {
					break
				}
				got = append(got, l...)
				s = place(l[len(l)-1])
			}
			wantEvents(t, g.name, got, all)
		}
	}
}

func TestUpto(t *testing.T) {
	for _, g := range groups() {
		for _, time := range clock(merged(g.lists)) {
			want := make([]int, len(g.lists))
			for i, l := range g.lists {
				for _, e := range l {
					if e.Time <= time {
						want[i]++
					}
				}
			}
			if got := order.Upto(g.lists, time); !slices.Equal(got, want) {
				t.Fatalf("%s: Upto(%d) = %v, want %v", g.name, time, got, want)
			}
		}
	}
}

// TestUptoTimes: each kind of time, with numbers that are written out.
func TestUptoTimes(t *testing.T) {
	lists := [][]api.Event{list(0, 1, 5), nil, {ev(3, 7), ev(5, 2), ev(5, 8), ev(5, 9), ev(6, 2)}, {}, list(4, api.End, greatest)}
	for _, c := range []struct {
		what string
		time uint64
		want []int
	}{
		{"time 0", 0, []int{0, 0, 0, 0, 0}},
		{"the first time", 1, []int{1, 0, 0, 0, 0}},
		{"a time without an event", 2, []int{1, 0, 0, 0, 0}},
		{"the time before that of several events", 4, []int{1, 0, 1, 0, 0}},
		{"the time of several events", 5, []int{2, 0, 4, 0, 0}},
		{"a later time", 6, []int{2, 0, 5, 0, 0}},
		{"the time before End", api.End - 1, []int{2, 0, 5, 0, 0}},
		{"End", api.End, []int{2, 0, 5, 0, 1}},
		{"the time before the greatest", greatest - 1, []int{2, 0, 5, 0, 1}},
		{"the greatest time", greatest, []int{2, 0, 5, 0, 2}},
	} {
		if got := order.Upto(lists, c.time); !slices.Equal(got, c.want) {
			t.Errorf("Upto of %s = %v, want %v", c.what, got, c.want)
		}
	}
	if got := order.Upto([][]api.Event{list(3, 0, 1)}, 0); !slices.Equal(got, []int{1}) {
		t.Errorf("Upto(0) of an event at time 0 = %v", got)
	}
}

func TestRight(t *testing.T) {
	for _, c := range []struct {
		what string
		l    []api.Event
		want bool
	}{
		{"nil", nil, true},
		{"no event", []api.Event{}, true},
		{"one event", list(3, 7), true},
		{"an event of zeros", []api.Event{{}}, true},
		{"rising times", list(3, 1, 2, 7, greatest), true},
		{"rising times of falling writers", []api.Event{ev(1, 9), ev(2, 8), ev(3, 7)}, true},
		{"rising writers of a time", []api.Event{ev(4, 0), ev(4, 1), ev(4, 63)}, true},
		{"two at the same place", []api.Event{ev(4, 1), ev(4, 1)}, true},
		{"two at the same place, with others", []api.Event{ev(3, 2), ev(4, 1), ev(4, 1), ev(4, 2)}, true},
		{"different events at the same place", []api.Event{{Time: 4, Seq: 9, Key: "b"}, {Time: 4, Seq: 1, Key: "a"}}, true},
		{"falling numbers", []api.Event{{Time: 1, Seq: 9}, {Time: 2, Seq: 8}}, true},
		{"a falling time", list(3, 2, 1), false},
		{"a falling time of rising writers", []api.Event{ev(2, 1), ev(1, 2)}, false},
		{"a falling writer of a time", []api.Event{ev(4, 1), ev(4, 0)}, false},
		{"a fall at the beginning", list(3, 2, 1, 3, 4, 5), false},
		{"a fall in the middle", list(3, 1, 2, 5, 4, 6), false},
		{"a fall at the end", list(3, 1, 2, 3, 5, 4), false},
		{"a fall behind the predecessor only", list(3, 1, 9, 2, 3), false},
		{"a fall from the greatest time", list(3, greatest, 0), false},
		{"a fall behind two at the same place", []api.Event{ev(4, 1), ev(4, 1), ev(4, 0)}, false},
	} {
		if got := order.Right(c.l); got != c.want {
			t.Errorf("Right of %s = %v, want %v", c.what, got, c.want)
		}
	}
}

// TestRightOfRandomLists: sorted ones, and others with each pair of neighbours exchanged.
func TestRightOfRandomLists(t *testing.T) {
	for _, g := range groups() {
		all := merged(g.lists)
		if !order.Right(all) || !order.Right(order.All(g.lists)) {
			t.Errorf("%s: All is not Right", g.name)
		}
		for i := 1; i < len(all); i++ {
			l := slices.Clone(all)
			l[i-1], l[i] = l[i], l[i-1]
			if order.Right(l) {
				t.Errorf("%s: Right, with %d and its predecessor exchanged", g.name, i)
			}
		}
	}
}

// TestArgumentsStay: the lists, also the memory behind them.
func TestArgumentsStay(t *testing.T) {
	for _, g := range groups() {
		room := make([][]api.Event, len(g.lists), len(g.lists)+2)
		for i, l := range g.lists {
			room[i] = append(append(make([]api.Event, 0, len(l)+2), copied([][]api.Event{l})[0]...), ev(91, 1), ev(92, 2))
		}
		before := copied(room)
		lists := slices.Clone(room)
		for i, l := range lists {
			lists[i] = l[:len(l)-2]
		}
		headers := slices.Clone(lists)
		all := merged(lists)
		c := order.New(lists)
		for i := range all {
			c.Next()
			c.Seek(place(all[i/2]))
		}
		c.Seek(spot(greatest, 63))
		order.All(lists)
		order.Range(lists, spot(1, 1), 3)
		order.Upto(lists, 4)
		for _, l := range lists {
			order.Right(l)
		}
		if !sameLists(lists, headers) || !sameLists(room, before) {
			t.Fatalf("%s: the lists are not as they were", g.name)
		}
	}
}

// TestSameAgain: answers depend on nothing but the lists (P2).
func TestSameAgain(t *testing.T) {
	for _, g := range groups() {
		first, upto := order.All(g.lists), order.Upto(g.lists, 3)
		for range 3 {
			wantEvents(t, g.name, order.All(copied(g.lists)), first)
			wantEvents(t, g.name, order.Range(copied(g.lists), spot(2, 1), 5), order.Range(g.lists, spot(2, 1), 5))
			if got := order.Upto(g.lists, 3); !slices.Equal(got, upto) {
				t.Errorf("%s: Upto(3) = %v, then %v", g.name, upto, got)
			}
		}
	}
}

// TestOtherListsAlsoEnd: nothing is promised of lists that are not Right or have a place twice but P1 and P2.
func TestOtherListsAlsoEnd(t *testing.T) {
	r := rand.New(rand.NewSource(122))
	for range 300 {
		lists := make([][]api.Event, r.Intn(5))
		for i := range lists {
			for range r.Intn(8) {
				lists[i] = append(lists[i], ev(uint64(r.Intn(5)), r.Intn(3)))
			}
		}
		s, most := spot(uint64(r.Intn(6)), r.Intn(4)), r.Intn(20)-2
		calls := func() ([]api.Event, int, []int) {
			c := order.New(lists)
			e, _ := c.Next()
			n := c.Seek(s)
			l := slices.Concat([]api.Event{e}, drained(t, c), order.All(lists), order.Range(lists, s, most))
			return l, n, order.Upto(lists, s.Time)
		}
		l, n, counts := calls()
		again, m, others := calls()
		if n != m || !slices.Equal(counts, others) || !sameList(l, again) {
			t.Fatalf("%v: other answers to the same calls", lists)
		}
	}
}

package order_test

import (
	"math"
	"math/rand"
	"slices"
	"testing"

	"anabranch/api"
	"anabranch/order"
)

// The tests of a cursor (P12.1).

func TestNextGivesAllInOrder(t *testing.T) {
	for _, g := range groups() {
		wantEvents(t, g.name, drained(t, order.New(g.lists)), merged(g.lists))
	}
}

// TestCursorAtItsEnd: it stays there, whatever it is asked.
func TestCursorAtItsEnd(t *testing.T) {
	for _, g := range groups() {
		walked, sought := order.New(g.lists), order.New(g.lists)
		drained(t, walked)
		if n, want := sought.Seek(spot(greatest, math.MaxInt)), len(merged(g.lists)); n != want {
			t.Errorf("%s: Seek behind all has passed %d, want %d", g.name, n, want)
		}
		for _, c := range []*order.Cursor{walked, sought} {
			for range 3 {
				if e, ok := c.Next(); ok || !same(e, api.Event{}) {
					t.Errorf("%s: Next() at the end = %v, %v", g.name, e, ok)
				}
				for _, s := range []api.Spot{{}, spot(1, 0), spot(greatest, 63), spot(greatest, math.MaxInt)} {
					if n := c.Seek(s); n != 0 {
						t.Errorf("%s: Seek(%v) at the end = %d", g.name, s, n)
					}
				}
			}
		}
	}
}

func TestSeekFromTheBeginning(t *testing.T) {
	for _, g := range groups() {
		all := merged(g.lists)
		for _, s := range places(all) {
			c, want := order.New(g.lists), behind(all, s)
			if n := c.Seek(s); n != len(all)-len(want) {
				t.Errorf("%s: Seek(%v) = %d, want %d", g.name, s, n, len(all)-len(want))
			}
			if n := c.Seek(s); n != 0 {
				t.Errorf("%s: Seek(%v) again = %d", g.name, s, n)
			}
			wantEvents(t, g.name, drained(t, c), want)
		}
	}
}

// TestSeekFromWithin: at most forward, and only the events from the cursor on count as passed.
func TestSeekFromWithin(t *testing.T) {
	lists := [][]api.Event{list(0, 1, 4, 6), nil, list(2, 4, 5, 8), list(3, 4)}
	all := merged(lists)
	for at := range len(all) + 1 {
		for _, s := range places(all) {
			c := order.New(lists)
			for range at {
				c.Next()
			}
			want := behind(all[at:], s)
			if n := c.Seek(s); n != len(all)-at-len(want) {
				t.Errorf("Seek(%v) behind %d events = %d, want %d", s, at, n, len(all)-at-len(want))
			}
			wantEvents(t, "behind Seek", drained(t, c), want)
		}
	}
}

// TestSeekPlaces: each kind of place, with numbers that are written out.
func TestSeekPlaces(t *testing.T) {
	lists := [][]api.Event{list(0, 2, 5), list(1, 2, 9), list(2, 3)} // 2.0, 2.1, 3.2, 5.0, 9.1
	for _, c := range []struct {
		what   string
		nexts  int
		s      api.Spot
		passed int
		then   api.Spot
	}{
		{"before all", 0, spot(1, 63), 0, spot(2, 0)},
		{"before all, at the same time", 0, spot(2, -1), 0, spot(2, 0)},
		{"at the first event", 0, spot(2, 0), 1, spot(2, 1)},
		{"at an event of the same time", 0, spot(2, 1), 2, spot(3, 2)},
		{"between two events", 0, spot(4, 0), 3, spot(5, 0)},
		{"between two events, by the writer", 0, spot(3, 1), 2, spot(3, 2)},
		{"at an event", 0, spot(5, 0), 4, spot(9, 1)},
		{"behind an event, at the same time", 0, spot(5, 63), 4, spot(9, 1)},
		{"before the last one, at the same time", 0, spot(9, 0), 4, spot(9, 1)},
		{"at the event that was given", 2, spot(2, 1), 0, spot(3, 2)},
		{"before the event that was given", 3, spot(2, 0), 0, spot(5, 0)},
		{"before all, from within", 3, api.Spot{}, 0, spot(5, 0)},
		{"at the cursor", 2, spot(3, 2), 1, spot(5, 0)},
		{"just before the cursor", 2, spot(3, 1), 0, spot(3, 2)},
		{"at a later event", 1, spot(5, 0), 3, spot(9, 1)},
	} {
		cursor := order.New(lists)
		for range c.nexts {
			cursor.Next()
		}
		if n := cursor.Seek(c.s); n != c.passed {
			t.Errorf("Seek %s: has passed %d, want %d", c.what, n, c.passed)
		}
		if e, ok := cursor.Next(); !ok || place(e) != c.then {
			t.Errorf("Seek %s: Next() = %v, %v, want %v", c.what, place(e), ok, c.then)
		}
	}
}

// TestNextAndSeekInTurns: random calls, against the events that are left.
func TestNextAndSeekInTurns(t *testing.T) {
	r := rand.New(rand.NewSource(121))
	for _, g := range groups() {
		all := merged(g.lists)
		spots := places(all)
		for range 10 {
			c, left := order.New(g.lists), all
			for len(left) > 0 {
				if r.Intn(3) > 0 {
					e, ok := c.Next()
					if !ok || !same(e, left[0]) {
						t.Fatalf("%s: Next() = %v, %v, want %v", g.name, place(e), ok, place(left[0]))
					}
					left = left[1:]
					continue
				}
				s := spots[r.Intn(len(spots))]
				if r.Intn(4) > 0 { // most of them near the cursor, so that there are many turns
					s = place(left[r.Intn(min(len(left), 4))])
				}
				want := behind(left, s)
				if n := c.Seek(s); n != len(left)-len(want) {
					t.Fatalf("%s: Seek(%v) = %d, want %d", g.name, s, n, len(left)-len(want))
				}
				left = want
			}
			wantEvents(t, g.name, drained(t, c), nil)
		}
	}
}

// TestCursorsAreIndependent: of the same lists, also while they are at different events.
func TestCursorsAreIndependent(t *testing.T) {
	for _, g := range groups() {
		all := merged(g.lists)
		a, b := order.New(g.lists), order.New(g.lists)
		var first, second []api.Event
		for i := range all {
			e, _ := a.Next()
			first = append(first, e)
			if i%2 == 1 {
				x, _ := b.Next()
				second = append(second, x)
			}
		}
		wantEvents(t, g.name, first, all)
		wantEvents(t, g.name, append(second, drained(t, b)...), all)
	}
}

// TestCursorKeepsNothingOfTheLists: what becomes of them does not matter to it.
func TestCursorKeepsNothingOfTheLists(t *testing.T) {
	for _, g := range groups() {
		lists := copied(g.lists)
		c := order.New(lists)
		for i := range lists {
			for j := range lists[i] {
				for k := range lists[i][j].Text {
					lists[i][j].Text[k] = '?'
				}
				lists[i][j] = ev(77, 7)
			}
			lists[i] = nil
		}
		wantEvents(t, g.name, drained(t, c), merged(g.lists))
	}
}

func TestNilCursor(t *testing.T) {
	var c *order.Cursor
	for range 2 {
		if e, ok := c.Next(); ok || !same(e, api.Event{}) {
			t.Errorf("Next() = %v, %v", e, ok)
		}
		for _, s := range places(list(3, 1, 2)) {
			if n := c.Seek(s); n != 0 {
				t.Errorf("Seek(%v) = %d", s, n)
			}
		}
	}
}

// TestNoEvents: a cursor of no lists, or of lists without events.
func TestNoEvents(t *testing.T) {
	for _, lists := range [][][]api.Event{nil, {}, {nil}, {{}}, {nil, {}, nil}, make([][]api.Event, 1000)} {
		c := order.New(lists)
		if c == nil {
			t.Fatal("no cursor")
		}
		for range 2 {
			if n := c.Seek(spot(greatest, 63)); n != 0 {
				t.Errorf("Seek = %d", n)
			}
			if _, ok := c.Next(); ok {
				t.Error("Next() = true")
			}
		}
	}
}

// TestEveryEventAsItIs: whatever its kind and its fields, and whether or not it is valid.
func TestEveryEventAsItIs(t *testing.T) {
	var l []api.Event
	for time := range uint64(9) {
		l = append(l, api.Event{Time: time, Writer: 1, Kind: byte(time), Seq: greatest, Key: string(make([]byte, 100)), Text: []byte{byte(time), 0xff}, Num: math.NaN(), Node: -1})
	}
	l = append(l, api.Event{Time: 10, Text: []byte{}}, api.Event{Time: 11, Num: math.Copysign(0, -1)})
	lists := [][]api.Event{nil, l}
	wantEvents(t, "Next", drained(t, order.New(lists)), l)
	wantEvents(t, "All", order.All(lists), l)
	wantEvents(t, "Range", order.Range(lists, spot(0, 0), len(l)), l)
}

// TestAnswersOnTheirOwn: a caller may append to what it was given, and to copies of it, without a change elsewhere.
func TestAnswersOnTheirOwn(t *testing.T) {
	for _, g := range groups() {
		lists, all := copied(g.lists), merged(g.lists)
		answers := map[string][]api.Event{
			"Next":  drained(t, order.New(lists)),
			"All":   order.All(lists),
			"Range": order.Range(lists, spot(0, math.MinInt), len(all)),
		}
		for what, l := range answers {
			kept := slices.Clone(l)
			for i, e := range l {
				one, other := append(e.Text, 'x'), append(l[i].Text, 'y')
				if len(e.Text) > 0 && (one[len(e.Text)] != 'x' || other[len(e.Text)] != 'y') {
					t.Fatalf("%s: %s: two texts share their room", g.name, what)
				}
			}
			wantEvents(t, g.name+": "+what, kept, all)
			for i := range l {
				clear(l[i].Text)
				l[i] = api.Event{}
			}
			if !sameLists(lists, copied(g.lists)) {
				t.Fatalf("%s: %s shares memory with the lists", g.name, what)
			}
		}
	}
}

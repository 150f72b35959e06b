package matrix_test

import (
	"math/rand"
	"slices"
	"testing"

	"anabranch/api"
	"anabranch/matrix"
	"anabranch/vector"
)

// The tests of P13.2.

// TestExample: that of the chapter.
func TestExample(t *testing.T) {
	k := known(nil, []uint64{1, 3}, []uint64{2})
	m := of(row(0, 5, 2, 1), row(1, 7, 2, 1))
	wantBound(t, "the example", m, []int{0, 1}, k, 5)
}

// one is events of three writers: of writer 0 those of 10, 20 and 30, of writer 1 none, and of writer 2 that of 25.
func one() matrix.Known {
	return known(nil, []uint64{10, 20, 30}, nil, []uint64{25})
}

// folded is the events of one, behind 4 folded events of writer 0, 2 of writer 1 and 7 of writer 3.
func folded() matrix.Known {
	return known(vector.Vector{4, 2, 0, 7}, []uint64{10, 20, 30}, nil, []uint64{25})
}

// TestBoundOfOneMember: each kind of row, with numbers that are written out.
func TestBoundOfOneMember(t *testing.T) {
	for _, c := range []struct {
		what string
		k    matrix.Known
		r    api.Row
		want uint64
	}{
		{"has all, time 0", one(), row(1, 0, 3, 0, 1), 0},
		{"has all, time 1", one(), row(1, 1, 3, 0, 1), 1},
		{"has all, a time before the last event", one(), row(1, 22, 3, 0, 1), 22},
		{"has all, a later time", one(), row(1, 50, 3, 0, 1), 50},
		{"lacks the last event", one(), row(1, 50, 2, 0, 1), 29},
		{"lacks the last event, an earlier time", one(), row(1, 28, 2, 0, 1), 28},
		{"lacks the last event, its time", one(), row(1, 30, 2, 0, 1), 29},
		{"lacks the last event, the time before it", one(), row(1, 29, 2, 0, 1), 29},
		{"lacks all from one in the middle on", one(), row(1, 50, 1, 0, 1), 19},
		{"lacks all from the first event on", one(), row(1, 50, 0, 0, 1), 9},
		{"lacks the only event of a writer", one(), row(1, 50, 3), 24},
		{"lacks events of two writers, the first of the first one", one(), row(1, 50, 1), 19},
		{"lacks events of two writers, the first of the second one", one(), row(1, 50, 2), 24},
		{"lacks all, with a time", one(), row(1, 50), 9},
		{"nothing is known", one(), row(1, 0), 0},
		{"has more events of another one", one(), row(1, 50, 4, 0, 1), 50},
		{"has many more events of another one", one(), row(1, 50, greatest, 0, api.End, 8), 50},
		{"has more events of another one, and lacks one", one(), row(1, 50, 3, 0, 0, 8), 24},
		{"has an event of its own that is not described", one(), row(1, 50, 3, 1, 1), 0},
		{"has many events of its own that are not described", one(), row(1, 50, 3, greatest, 1), 0},
		{"has all, also its own", one(), row(2, 50, 3, 0, 1), 50},
		{"has one more of its own", one(), row(2, 50, 3, 0, 2), 0},
		{"lacks its own event", one(), row(2, 50, 3), 24},
		{"has three of its own", one(), row(0, 50, 3, 0, 1), 50},
		{"lacks one of its own", one(), row(0, 50, 2, 0, 1), 29},
		{"has four of its own", one(), row(0, 50, 4, 0, 1), 0},
		{"a writer without a list has none", one(), row(9, 50, 3, 0, 1), 50},
		{"a writer without a list has one", one(), row(3, 50, 3, 0, 1, 1), 0},
		{"the last node has one", one(), api.Row{Node: 63, Time: 50, Have: append(append([]uint64{3, 0, 1}, make([]uint64, 60)...), 1)}, 0},

		{"has all, also the folded events", folded(), row(5, 50, 7, 2, 1, 7), 50},
		{"lacks the last one behind the folded events", folded(), row(5, 50, 6, 2, 1, 7), 29},
		{"lacks one in the middle, behind the folded events", folded(), row(5, 50, 5, 2, 1, 7), 19},
		{"lacks the first one behind the folded events", folded(), row(5, 50, 4, 2, 1, 7), 9},
		{"lacks the last folded event", folded(), row(5, 50, 3, 2, 1, 7), 0},
		{"lacks the folded events of a writer", folded(), row(5, 50, 0, 2, 1, 7), 0},
		{"lacks a folded event of a writer with an empty list", folded(), row(5, 50, 7, 1, 1, 7), 0},
		{"lacks a folded event of a writer without a list", folded(), row(5, 50, 7, 2, 1, 6), 0},
		{"lacks the folded events of the last writer", folded(), row(5, 50, 7, 2, 1), 0},
		{"lacks a folded event of its own", folded(), row(3, 50, 7, 2, 1, 6), 0},
		{"lacks a folded event, and one behind another", folded(), row(5, 50, 6, 1, 1, 7), 0},
		{"has the folded events only", folded(), row(5, 50, 4, 2, 0, 7), 9},
		{"has the folded events of its own only", folded(), row(0, 50, 4, 2, 1, 7), 9},
		{"has its own events, also folded ones", folded(), row(0, 50, 7, 2, 1, 7), 50},
		{"has one more of its own than with the folded ones", folded(), row(0, 50, 8, 2, 1, 7), 0},
		{"has one more of its own than the folded ones", folded(), row(1, 50, 7, 3, 1, 7), 0},
		{"has all folded ones of its own, and an empty list", folded(), row(1, 50, 7, 2, 1, 7), 50},
		{"has one more of its own than the folded ones, without a list", folded(), row(3, 50, 7, 2, 1, 8), 0},
		{"has more events of others than are folded", folded(), row(5, 50, 9, 9, 9, 9), 50},

		{"no events", matrix.Known{}, row(1, 50), 50},
		{"no events, and some of others", matrix.Known{}, row(1, 50, 8, 0, 8), 50},
		{"no events, and one of its own", matrix.Known{}, row(1, 50, 0, 1), 0},
		{"no lists, has all", matrix.Known{Floor: vector.Vector{2, 3}}, row(1, 50, 2, 3), 50},
		{"no lists, lacks the last one", matrix.Known{Floor: vector.Vector{2, 3}}, row(1, 50, 2, 2), 0},
		{"no lists, has one more", matrix.Known{Floor: vector.Vector{2, 3}}, row(1, 50, 2, 4), 0},
		{"a floor with trailing zeros", matrix.Known{Floor: make(vector.Vector, 64)}, row(1, 50), 50},
		{"a floor shorter than the lists", known(vector.Vector{5}, []uint64{9}, []uint64{8}), row(0, 50, 6, 0), 7},
		{"a floor shorter than the lists, has all", known(vector.Vector{5}, []uint64{9}, []uint64{8}), row(1, 50, 6, 1), 50},
		{"a floor shorter than the lists, lacks a folded one", known(vector.Vector{5}, []uint64{9}, []uint64{8}), row(1, 50, 4, 1), 0},
		{"a floor longer than the lists, has all", known(vector.Vector{0, 0, 5}, []uint64{9}), row(1, 50, 1, 0, 5), 50},
		{"a floor longer than the lists, lacks the event", known(vector.Vector{0, 0, 5}, []uint64{9}), row(1, 50, 0, 0, 5), 8},
		{"a floor longer than the lists, lacks a folded one", known(vector.Vector{0, 0, 5}, []uint64{9}), row(1, 50, 1, 0, 4), 0},
		{"lists without events", known(nil, nil, []uint64{}, nil), row(1, 50), 50},

		{"an event at time 1", known(nil, []uint64{1, 2}), row(1, 50), 0},
		{"an event at time 2", known(nil, []uint64{1, 2}), row(1, 50, 1), 1},
		{"the time End", one(), row(1, api.End, 3, 0, 1), api.End},
		{"the time before End", one(), row(1, api.End-1, 3, 0, 1), api.End - 1},
		{"a time above End", one(), row(1, api.End+1, 3, 0, 1), api.End},
		{"the greatest time", one(), row(1, greatest, 3, 0, 1), api.End},
		{"has an event at End", known(nil, []uint64{7, api.End}), row(1, api.End, 2), api.End},
		{"lacks an event at End", known(nil, []uint64{7, api.End}), row(1, api.End, 1), api.End - 1},
		{"lacks an event at End, the greatest time", known(nil, []uint64{7, api.End}), row(1, greatest, 1), api.End - 1},
		{"a floor at End, has all", known(vector.Vector{api.End - 1}, []uint64{7}), row(1, 50, api.End), 50},
		{"a floor at End, lacks the event", known(vector.Vector{api.End - 1}, []uint64{7}), row(1, 50, api.End-1), 6},
		{"a floor at End, lacks a folded one", known(vector.Vector{api.End - 1}, []uint64{7}), row(1, 50, api.End-2), 0},
		{"a floor at End, has its own", known(vector.Vector{api.End - 1}, []uint64{7}), row(0, 50, api.End), 50},
		{"a floor at End, has one more of its own", known(vector.Vector{api.End - 1}, []uint64{7}), row(0, 50, api.End+1), 0},
		{"the greatest floor", known(vector.Vector{greatest}, []uint64{7}), row(0, 50, greatest), 6},
	} {
		m := of(c.r)
		n := c.r.Node
		wantBound(t, c.what, m, []int{n}, c.k, c.want)
		wantBound(t, c.what+", twice", m, []int{n, n}, c.k, c.want)
		m.Raise(row(20, api.End, 100, 100, 100, 100))
		wantBound(t, c.what+", beside another row", m, []int{n}, c.k, c.want)
	}
}

// TestBoundOfSeveralMembers: the least of what each of them alone has; rows of others mean nothing.
func TestBoundOfSeveralMembers(t *testing.T) {
	m := of(
		row(0, 50, 3, 0, 1),             // has all
		row(1, 40, 3, 0, 1),             // has all
		row(2, 60, 2, 0, 1),             // lacks the event of 30
		row(3, 60, 3),                   // lacks the event of 25
		row(4, 60, 3, 0, 1, 9),          // has more of another one
		row(5, 0, 3, 0, 1),              // has all, at time 0
		row(6, 60, 3, 0, 1, 0, 0, 0, 1), // has one of its own
		row(63, greatest, 3, 0, 1))
	for _, c := range []struct {
		members []int
		want    uint64
	}{
		{nil, 0},
		{[]int{}, 0},
		{[]int{0}, 50},
		{[]int{0, 1}, 40},
		{[]int{1, 0}, 40},
		{[]int{0, 4}, 50},
		{[]int{0, 63}, 50},
		{[]int{63}, api.End},
		{[]int{63, 63}, api.End},
		{[]int{0, 2}, 29},
		{[]int{2, 0}, 29},
		{[]int{2, 3}, 24},
		{[]int{0, 1, 2, 3, 4, 63}, 24},
		{[]int{63, 4, 3, 2, 1, 0}, 24},
		{[]int{0, 1, 0, 1, 1}, 40},
		{[]int{0, 5}, 0},
		{[]int{5, 0}, 0},
		{[]int{0, 6, 63}, 0},
		{[]int{0, 7}, 0},
		{[]int{7, 0}, 0},
		{[]int{0, 62, 63}, 0},
		{[]int{7}, 0},
	} {
		wantBound(t, "several members", m, c.members, one(), c.want)
	}
}

// TestBoundOfANewMatrix: nothing is known of any member.
func TestBoundOfANewMatrix(t *testing.T) {
	for _, k := range []matrix.Known{{}, one(), folded(), known(nil, []uint64{api.End})} {
		for n := range 64 {
			wantBound(t, "a new matrix", matrix.New(), []int{n}, k, 0)
		}
		wantBound(t, "a new matrix", matrix.New(), nil, k, 0)
	}
}

// TestBoundRises: as rows are raised, up to the least of the times.
func TestBoundRises(t *testing.T) {
	m, both, k := of(row(0, 50, 3, 0, 1)), []int{0, 1}, one()
	wantBound(t, "one row", m, both, k, 0)
	for _, c := range []struct {
		r    api.Row
		want uint64
	}{
		{row(1, 8), 8},
		{row(1, 70), 9},
		{row(1, 0, 1), 19},
		{row(1, 0, 3), 24},
		{row(1, 0, 0, 0, 1), 50},
		{row(0, 60), 60},
		{row(1, 0, 0, 1), 0},
	} {
		m.Raise(c.r)
		wantBound(t, "raised", m, both, k, c.want)
	}
	k.Lists[1] = list(1, 0, 65)
	wantBound(t, "with the event of member 1", m, both, k, 60)
	wantBound(t, "with the event of member 1", m, []int{1}, k, 70)
	k.Lists[1] = list(1, 0, 55)
	wantBound(t, "with an earlier event of member 1", m, both, k, 54)
}

// TestBoundOfEachNumber: of every writer and every member, with every number from none to more than there are.
func TestBoundOfEachNumber(t *testing.T) {
	for w := range 64 {
		for _, n := range []int{0, 1, w, 63} {
			k := matrix.Known{Floor: lone(w+1, w, 2), Lists: make([][]api.Event, 64)}
			k.Lists[w] = list(w, 2, 11, 13, 17)
			for have, want := range []uint64{0, 0, 10, 12, 16, 90, 90} {
				if have > 5 && n == w {
					want = 0
				}
				wantBound(t, "a number", of(api.Row{Node: n, Have: lone(64, w, uint64(have)), Time: 90}), []int{n}, k, want)
			}
		}
	}
}

// TestEventsAreNumberedByTheirPlaces: Bound asks only the times of the events.
func TestEventsAreNumberedByTheirPlaces(t *testing.T) {
	k := matrix.Known{Floor: vector.Vector{1}, Lists: [][]api.Event{{{Time: 2}, {Writer: 9, Seq: 77, Time: 6}}, {{Time: 4}}}}
	for _, c := range []struct {
		r    api.Row
		want uint64
	}{
		{row(3, 9, 3, 1), 9},
		{row(3, 9, 2, 1), 5},
		{row(3, 9, 3, 0), 3},
		{row(3, 9, 1, 1), 1},
		{row(3, 9, 0, 1), 0},
	} {
		wantBound(t, "events without numbers", of(c.r), []int{3}, k, c.want)
	}
}

// randomKnown returns events of some writers, each of them in order.
func randomKnown(r *rand.Rand, writers int) matrix.Known {
	k := matrix.Known{Floor: make(vector.Vector, r.Intn(writers+1)), Lists: make([][]api.Event, r.Intn(writers+1))}
	for w := range k.Floor {
		k.Floor[w] = uint64(r.Intn(4))
	}
	for w := range k.Lists {
		time := uint64(0)
		for range r.Intn(5) {
			time += uint64(1 + r.Intn(6))
			k.Lists[w] = append(k.Lists[w], list(w, 0, time)...)
		}
	}
	return k
}

// nearRow returns a row of a member that has about as many events as there are.
func nearRow(r *rand.Rand, n, writers int, k matrix.Known) api.Row {
	have := make([]uint64, writers)
	for w := range have {
		have[w] = at(k.Floor, w)
		if w < len(k.Lists) {
			have[w] += uint64(len(k.Lists[w]))
		}
		switch i := uint64(r.Intn(3)); r.Intn(3 * writers) {
		case 0:
			have[w] -= min(i, have[w])
		case 1:
			have[w] += i
		}
	}
	return row(n, uint64(1+r.Intn(30)), have...)
}

// TestRandomBounds: against a model that goes through all events of all members.
func TestRandomBounds(t *testing.T) {
	r := rand.New(rand.NewSource(134))
	zeros := 0
	for range 20000 {
		writers := 1 + r.Intn(6)
		k := randomKnown(r, writers)
		m, x := matrix.New(), &model{}
		var members []int
		for range r.Intn(5) {
			one := nearRow(r, r.Intn(writers), writers, k)
			m.Raise(one)
			x.raise(one)
			members = append(members, one.Node)
		}
		want := x.bound(members, k)
		if got := m.Bound(members, k); got != want {
			t.Fatalf("Bound(%v, %v) of %v = %d, want %d", members, k, m.Rows(), got, want)
		}
		if want == 0 {
			zeros++
		}
	}
	if zeros < 2000 || zeros > 18000 {
		t.Errorf("%d of 20000 bounds are 0: the rows are not as they should be", zeros)
	}
}

// TestBoundOfManyMembers: all nodes, each with events of its own.
func TestBoundOfManyMembers(t *testing.T) {
	var k matrix.Known
	var members []int
	have := make([]uint64, 64)
	for w := range 64 {
		k.Floor = append(k.Floor, uint64(w%3))
		k.Lists = append(k.Lists, list(w, uint64(w%3), uint64(100+w), uint64(200+w)))
		have[w] = uint64(w%3 + 2)
		members = append(members, w)
	}
	rows := func(change func(n int, have []uint64)) *matrix.Matrix {
		m := matrix.New()
		for n := range 64 {
			own := slices.Clone(have)
			change(n, own)
			m.Raise(row(n, uint64(1000+n), own...))
		}
		return m
	}
	wantBound(t, "all have all", rows(func(int, []uint64) {}), members, k, 1000)
	for w := range 64 {
		lacks := rows(func(n int, have []uint64) {
			if n == 63-w {
				have[w]--
			}
		})
		wantBound(t, "one lacks the last event of a writer", lacks, members, k, uint64(200+w-1))
		more := rows(func(n int, have []uint64) {
			if n == w {
				have[w]++
			}
		})
		wantBound(t, "one has more of its own", more, members, k, 0)
		others := rows(func(n int, have []uint64) {
			if n != w {
				have[w]++
			}
		})
		wantBound(t, "all others have more of one", others, members, k, 1000)
	}
}

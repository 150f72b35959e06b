package matrix_test

import (
	"math/rand"
	"slices"
	"testing"

	"anabranch/api"
	"anabranch/matrix"
)

// The tests of P13.1.

func TestNewMatrix(t *testing.T) {
	m := matrix.New()
	wantRows(t, m)
	for n := range 64 {
		wantRow(t, m, row(n, 0))
	}
}

// TestRaise: one row after the other, with numbers that are written out.
func TestRaise(t *testing.T) {
	m := matrix.New()
	for _, c := range []struct {
		what string
		r    api.Row
		want bool
		then api.Row
	}{
		{"nothing, of a member of which nothing is known", row(3, 0), false, row(3, 0)},
		{"zeros, of a member of which nothing is known", row(3, 0, 0, 0), false, row(3, 0)},
		{"a row for the first time", row(3, 9, 4, 0, 2), true, row(3, 9, 4, 0, 2)},
		{"the same row", row(3, 9, 4, 0, 2), false, row(3, 9, 4, 0, 2)},
		{"the same row, with trailing zeros", row(3, 9, 4, 0, 2, 0, 0), false, row(3, 9, 4, 0, 2)},
		{"a row with nothing", row(3, 0), false, row(3, 9, 4, 0, 2)},
		{"a row with less of everything", row(3, 8, 3, 0, 1), false, row(3, 9, 4, 0, 2)},
		{"a row with fewer numbers", row(3, 9, 4), false, row(3, 9, 4, 0, 2)},
		{"a row with its time alone", row(3, 9), false, row(3, 9, 4, 0, 2)},
		{"a greater time alone", row(3, 10), true, row(3, 10, 4, 0, 2)},
		{"a greater time, with the same numbers", row(3, 11, 4, 0, 2), true, row(3, 11, 4, 0, 2)},
		{"a greater time, with less", row(3, 12, 1, 0, 1), true, row(3, 12, 4, 0, 2)},
		{"one greater number alone", row(3, 0, 5), true, row(3, 12, 5, 0, 2)},
		{"one greater number, with the same of everything else", row(3, 12, 6, 0, 2), true, row(3, 12, 6, 0, 2)},
		{"a number between", row(3, 12, 6, 1, 2), true, row(3, 12, 6, 1, 2)},
		{"the last number", row(3, 12, 6, 1, 3), true, row(3, 12, 6, 1, 3)},
		{"a number behind the last one", row(3, 0, 0, 0, 0, 0, 1), true, row(3, 12, 6, 1, 3, 0, 1)},
		{"greater and less", row(3, 1, 2, 7, 1, 5), true, row(3, 12, 6, 7, 3, 5, 1)},
		{"greater and less, with a greater time", row(3, 13, 7, 1), true, row(3, 13, 7, 7, 3, 5, 1)},
		{"greater by many", row(3, api.End, api.End, 8), true, row(3, api.End, api.End, 8, 3, 5, 1)},
		{"numbers above End", row(3, api.End+1, 0, greatest), true, row(3, api.End+1, api.End, greatest, 3, 5, 1)},
		{"less again", row(3, api.End, api.End, api.End), false, row(3, api.End+1, api.End, greatest, 3, 5, 1)},
		{"the greatest time", row(3, greatest), true, row(3, greatest, api.End, greatest, 3, 5, 1)},
	} {
		wantRaise(t, c.what, m, c.r, c.want, c.then)
		want := []api.Row{c.then}
		if c.then.Time == 0 {
			want = nil
		}
		wantRows(t, m, want...)
	}
}

// TestRaiseForTheFirstTime: by a time, by a number, or by both.
func TestRaiseForTheFirstTime(t *testing.T) {
	for n := range 64 {
		for _, r := range []api.Row{row(n, 1), row(n, 0, 1), row(n, 5, 6, 7), {Node: n, Have: lone(64, 63, 1)}, row(n, api.End, all(64)...)} {
			m := matrix.New()
			wantRaise(t, "a first row", m, r, true, r)
			wantRows(t, m, r)
		}
	}
}

// TestRaiseOneNumber: that of each writer alone, of a row that has more and of one that has fewer numbers.
func TestRaiseOneNumber(t *testing.T) {
	for w := range 64 {
		for _, have := range [][]uint64{nil, {9}, all(w), all(w + 1), all(64)} {
			then := make([]uint64, 64)
			copy(then, have)
			then[w]++
			m := of(row(7, 2, have...))
			wantRaise(t, "one number", m, api.Row{Node: 7, Have: lone(w+1, w, then[w])}, true, row(7, 2, then...))
			wantRaise(t, "one number again", m, api.Row{Node: 7, Have: lone(64, w, then[w])}, false, row(7, 2, then...))
			wantRaise(t, "one number less", m, api.Row{Node: 7, Have: lone(64, w, then[w]-1)}, false, row(7, 2, then...))
		}
	}
}

func TestRaiseTheTimeAlone(t *testing.T) {
	for _, have := range [][]uint64{nil, {9}, all(64)} {
		m := of(row(0, 2, have...))
		wantRaise(t, "no time", m, row(0, 0), false, row(0, 2, have...))
		wantRaise(t, "a time before", m, row(0, 1), false, row(0, 2, have...))
		wantRaise(t, "the same time", m, row(0, 2), false, row(0, 2, have...))
		wantRaise(t, "a time after", m, row(0, 3), true, row(0, 3, have...))
		wantRaise(t, "a later time, with the numbers", m, row(0, 5, have...), true, row(0, 5, have...))
	}
}

// TestMoreThanMaxNodesNumbers: those behind the first MaxNodes mean nothing.
func TestMoreThanMaxNodesNumbers(t *testing.T) {
	m := matrix.New()
	wantRaise(t, "65 numbers, only the last one above 0", m, api.Row{Node: 5, Have: lone(65, 64, 8)}, false, row(5, 0))
	wantRaise(t, "many zeros", m, api.Row{Node: 5, Have: make([]uint64, 1000)}, false, row(5, 0))
	wantRows(t, m)
	wantRaise(t, "1000 numbers", m, row(5, 0, all(1000)...), true, row(5, 0, all(64)...))
	wantRaise(t, "65 numbers, the first 64 as before", m, row(5, 0, append(all(64), greatest)...), false, row(5, 0, all(64)...))
	wantRaise(t, "66 numbers", m, row(5, 0, append(lone(64, 63, 99), 1, 2)...), true, row(5, 0, append(all(63), 99)...))
	wantRaise(t, "65 numbers, with a greater time", m, row(5, 1, lone(65, 64, 8)...), true, row(5, 1, append(all(63), 99)...))
	m = of(api.Row{Node: 64, Have: all(64), Time: 9})
	wantRows(t, m)
}

// TestLimitNumbers: 63 and 64 numbers count as a whole.
func TestLimitNumbers(t *testing.T) {
	m := matrix.New()
	wantRaise(t, "63 numbers", m, row(63, 0, all(63)...), true, row(63, 0, all(63)...))
	wantRaise(t, "64 numbers", m, row(63, 0, all(64)...), true, row(63, 0, all(64)...))
	wantRaise(t, "63 numbers again", m, row(63, 0, all(63)...), false, row(63, 0, all(64)...))
}

// TestNoNodes: a row of one changes nothing, and it has none.
func TestNoNodes(t *testing.T) {
	for _, m := range []*matrix.Matrix{matrix.New(), of(row(0, 5, 1, 2), row(1, 6), row(63, 0, 1))} {
		before := m.Rows()
		for _, n := range noNodes {
			for _, r := range []api.Row{row(n, 0), row(n, 9), row(n, 9, 3, 4), row(n, api.End, all(64)...)} {
				wantRaise(t, "no node", m, r, false, row(n, 0))
			}
		}
		wantRows(t, m, before...)
		for _, n := range []int{0, 1, 2, 62, 63} {
			i := slices.IndexFunc(before, func(r api.Row) bool { return r.Node == n })
			if i < 0 {
				wantRow(t, m, row(n, 0))
			} else {
				wantRow(t, m, before[i])
			}
		}
	}
}

// TestRowsOfEachMember: that of one member says nothing of the others.
func TestRowsOfEachMember(t *testing.T) {
	for n := range 64 {
		m := of(row(n, 7, all(64)...))
		wantRows(t, m, row(n, 7, all(64)...))
		for other := range 64 {
			if other != n {
				wantRow(t, m, row(other, 0))
			}
		}
	}
}

// TestRowsInIncreasingOrder: whatever the order in which they were raised.
func TestRowsInIncreasingOrder(t *testing.T) {
	r := rand.New(rand.NewSource(131))
	for _, n := range []int{0, 1, 2, 3, 10, 63, 64} {
		for range 20 {
			nodes := r.Perm(64)[:n]
			m := matrix.New()
			var want []api.Row
			for _, node := range nodes {
				x := row(node, uint64(node), uint64(64-node), 0, uint64(node))
				wantRaise(t, "a row", m, x, true, x)
				want = append(want, x)
			}
			slices.SortFunc(want, func(a, b api.Row) int { return a.Node - b.Node })
			wantRows(t, m, want...)
		}
	}
}

// TestRowsOfWhichSomethingIsKnown: a time, or a number of any writer.
func TestRowsOfWhichSomethingIsKnown(t *testing.T) {
	m := of(row(9, 0), row(8, 1), row(7, 0, 0, 0, 0), row(6, 0, 0, 0, 1), api.Row{Node: 5, Have: lone(64, 63, 1)}, row(4, 0), row(3, 0, 1, 0))
	wantRows(t, m, row(3, 0, 1), api.Row{Node: 5, Have: lone(64, 63, 1)}, row(6, 0, 0, 0, 1), row(8, 1))
}

// TestRandomRaises: random rows, against a model number by number.
func TestRandomRaises(t *testing.T) {
	r := rand.New(rand.NewSource(132))
	for range 200 {
		nodes := 1 + r.Intn(64)
		m, x := matrix.New(), &model{}
		for range 20 {
			one := randomRow(r, nodes)
			if got, want := m.Raise(one), x.raise(one); got != want {
				t.Fatalf("Raise(%v) = %v, want %v", one, got, want)
			}
		}
		wantModel(t, m, x)
	}
}

// TestOrderOfRaises: the same rows in another order, and several times, lead to the same.
func TestOrderOfRaises(t *testing.T) {
	r := rand.New(rand.NewSource(133))
	for range 100 {
		var rows []api.Row
		for range 12 {
			rows = append(rows, randomRow(r, 3))
		}
		want := of(rows...).Rows()
		r.Shuffle(len(rows), func(i, j int) { rows[i], rows[j] = rows[j], rows[i] })
		m := of(append(rows, rows...)...)
		wantRows(t, m, want...)
		for _, x := range append(rows, want...) {
			if m.Raise(x) {
				t.Errorf("Raise of %v, which is known, changes something", x)
			}
		}
	}
}

package matrix_test

import (
	"math"
	"math/rand"
	"slices"
	"testing"

	"anabranch/api"
	"anabranch/matrix"
	"anabranch/vector"
)

const greatest = math.MaxUint64

// noNodes are numbers that no node has.
var noNodes = []int{math.MinInt, -65, -64, -1, 64, 65, 128, math.MaxInt}

// model is a matrix as the chapter says it, made without the program's packages.
type model struct {
	have [64][64]uint64
	time [64]uint64
}

func (m *model) raise(r api.Row) bool {
	if r.Node < 0 || r.Node >= 64 {
		return false
	}
	changed := false
	for w, n := range r.Have {
		if w < 64 && n > m.have[r.Node][w] {
			m.have[r.Node][w], changed = n, true
		}
	}
	if r.Time > m.time[r.Node] {
		m.time[r.Node], changed = r.Time, true
	}
	return changed
}

func (m *model) row(n int) api.Row {
	if n < 0 || n >= 64 {
		return api.Row{Node: n}
	}
	return api.Row{Node: n, Have: m.have[n][:], Time: m.time[n]}
}

func (m *model) rows() []api.Row {
	var l []api.Row
	for n := range 64 {
		if m.time[n] > 0 || m.have[n] != [64]uint64{} {
			l = append(l, m.row(n))
		}
	}
	return l
}

// bound goes through all events of all members, one by one.
func (m *model) bound(members []int, k matrix.Known) uint64 {
	if len(members) == 0 {
		return 0
	}
	least := uint64(api.End)
	for _, n := range members {
		least = min(least, m.time[n])
		own := false
		for w := range 64 {
			events := m.unseen(n, w, k)
			for _, e := range events {
				least = min(least, e.Time-1)
			}
			if m.have[n][w] < at(k.Floor, w) {
				return 0
			}
			own = own || w == n && m.more(n, k)
		}
		if own {
			return 0
		}
	}
	return least
}

// unseen returns the events of writer w in the Lists that member n does not have.
func (m *model) unseen(n, w int, k matrix.Known) []api.Event {
	if w >= len(k.Lists) {
		return nil
	}
	var l []api.Event
	number := at(k.Floor, w)
	for _, e := range k.Lists[w] {
		if number++; number > m.have[n][w] {
			l = append(l, e)
		}
	}
	return l
}

// more reports whether member n has more events of its own than k.
func (m *model) more(n int, k matrix.Known) bool {
	count := at(k.Floor, n)
	if n < len(k.Lists) {
		count += uint64(len(k.Lists[n]))
	}
	return m.have[n][n] > count
}

// at returns the number for writer w.
func at(v []uint64, w int) uint64 {
	if w >= len(v) {
		return 0
	}
	return v[w]
}

// trimmed returns numbers without trailing zeros.
func trimmed(v []uint64) []uint64 {
	n := len(v)
	for n > 0 && v[n-1] == 0 {
		n--
	}
	return slices.Clone(v[:n])
}

// lone returns n numbers, of which only that of w is not 0.
func lone(n, w int, x uint64) []uint64 {
	v := make([]uint64, n)
	v[w] = x
	return v
}

// all returns the numbers from 1 to n.
func all(n int) []uint64 {
	v := make([]uint64, n)
	for w := range v {
		v[w] = uint64(w) + 1
	}
	return v
}

// row returns that of a member.
func row(n int, time uint64, have ...uint64) api.Row {
	return api.Row{Node: n, Have: have, Time: time}
}

// list returns events of one writer, after some that are folded.
func list(w int, folded uint64, times ...uint64) []api.Event {
	var l []api.Event
	for i, time := range times {
		l = append(l, api.Event{Writer: w, Seq: folded + uint64(i) + 1, Time: time, Kind: api.Drop, Key: "k"})
	}
	return l
}

// known returns events with a Floor, and with lists of these times.
func known(floor vector.Vector, times ...[]uint64) matrix.Known {
	k := matrix.Known{Floor: floor}
	for w, l := range times {
		k.Lists = append(k.Lists, list(w, at(floor, w), l...))
	}
	return k
}

// of returns a matrix with these rows.
func of(rows ...api.Row) *matrix.Matrix {
	m := matrix.New()
	for _, r := range rows {
		m.Raise(r)
	}
	return m
}

// same reports whether two rows are equal. Those of a matrix end with no zeros.
func same(got, want api.Row) bool {
	return got.Node == want.Node && got.Time == want.Time && slices.Equal(got.Have, trimmed(want.Have))
}

func wantRow(t *testing.T, m *matrix.Matrix, want api.Row) {
	t.Helper()
	if got := m.Row(want.Node); !same(got, want) {
		t.Errorf("Row(%d) = %v, want %v", want.Node, got, want)
	}
}

func wantRows(t *testing.T, m *matrix.Matrix, want ...api.Row) {
	t.Helper()
	if got := m.Rows(); !slices.EqualFunc(got, want, same) {
		t.Errorf("Rows() = %v, want %v", got, want)
	}
}

// wantRaise checks what a Raise returns, and the row that the member has then.
func wantRaise(t *testing.T, what string, m *matrix.Matrix, r api.Row, want bool, then api.Row) {
	t.Helper()
	if got := m.Raise(r); got != want {
		t.Errorf("Raise of %s = %v, want %v", what, got, want)
	}
	if got := m.Row(then.Node); !same(got, then) {
		t.Errorf("after Raise of %s: Row(%d) = %v, want %v", what, then.Node, got, then)
	}
}

func wantBound(t *testing.T, what string, m *matrix.Matrix, members []int, k matrix.Known, want uint64) {
	t.Helper()
	if got := m.Bound(members, k); got != want {
		t.Errorf("%s: Bound of %v = %d, want %d", what, members, got, want)
	}
}

// wantModel checks all that a matrix returns about rows.
func wantModel(t *testing.T, m *matrix.Matrix, x *model) {
	t.Helper()
	wantRows(t, m, x.rows()...)
	for n := -2; n < 67; n++ {
		wantRow(t, m, x.row(n))
	}
}

// randomRow returns a row of one of the first nodes, or sometimes of no node. Most numbers are small, so that every
// order of two rows occurs.
func randomRow(r *rand.Rand, nodes int) api.Row {
	have := make([]uint64, r.Intn(2*nodes))
	for w := range have {
		have[w] = randomNumber(r)
	}
	n := r.Intn(nodes)
	if r.Intn(20) == 0 {
		n = noNodes[r.Intn(len(noNodes))]
	}
	return api.Row{Node: n, Have: have, Time: randomNumber(r)}
}

func randomNumber(r *rand.Rand) uint64 {
	if r.Intn(60) == 0 {
		return r.Uint64() >> r.Intn(64)
	}
	return uint64(r.Intn(8))
}

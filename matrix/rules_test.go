package matrix_test

import (
	"math/rand"
	"slices"
	"testing"

	"anabranch/api"
	"anabranch/matrix"
	"anabranch/vector"
)

// The tests of P1 and P2, and of the rule on memory.

// TestNilMatrix is P1: nothing is known, and nothing gets known.
func TestNilMatrix(t *testing.T) {
	var m *matrix.Matrix
	for _, n := range append([]int{0, 1, 63}, noNodes...) {
		for _, r := range []api.Row{row(n, 0), row(n, 9), row(n, 9, 3, 4), row(n, api.End, all(64)...)} {
			if m.Raise(r) {
				t.Errorf("Raise(%v) of a nil matrix", r)
			}
		}
		wantRow(t, m, row(n, 0))
		for _, k := range []matrix.Known{{}, one(), folded()} {
			wantBound(t, "a nil matrix", m, []int{n}, k, 0)
			wantBound(t, "a nil matrix", m, []int{0, n}, k, 0)
		}
	}
	wantRows(t, m)
	wantBound(t, "a nil matrix", m, nil, matrix.Known{}, 0)
}

// TestNothingHandedOver is P1: nil slices are as good as empty ones.
func TestNothingHandedOver(t *testing.T) {
	m := matrix.New()
	if m.Raise(api.Row{}) || m.Raise(api.Row{Have: []uint64{}}) {
		t.Error("Raise of a row with nothing")
	}
	m.Raise(row(0, 4))
	for _, floor := range []vector.Vector{nil, {}} {
		for _, lists := range [][][]api.Event{nil, {}, {nil}, {{}}, make([][]api.Event, 64)} {
			k := matrix.Known{Floor: floor, Lists: lists}
			wantBound(t, "nothing", m, []int{0}, k, 4)
			wantBound(t, "nothing", m, nil, k, 0)
			wantBound(t, "nothing", m, []int{}, k, 0)
		}
	}
}

// TestOtherMembersAlsoEnd: nothing is promised of members that are no nodes, nor of lists that are too many or not in
// order, but P1 and P2.
func TestOtherMembersAlsoEnd(t *testing.T) {
	r := rand.New(rand.NewSource(135))
	m := of(row(0, 40, 2, 1), row(1, 50, 1, 2), row(63, greatest, all(64)...))
	for range 300 {
		k := matrix.Known{Floor: make(vector.Vector, r.Intn(100)), Lists: make([][]api.Event, r.Intn(100))}
		if r.Intn(2) == 0 && len(k.Floor) > 0 {
			k.Floor[r.Intn(len(k.Floor))] = randomNumber(r)
		}
		for range r.Intn(5) {
			w := r.Intn(len(k.Lists) + 1)
			if w < len(k.Lists) {
				k.Lists[w] = list(w, 0, randomNumber(r), randomNumber(r), randomNumber(r))
			}
		}
		members := []int{noNodes[r.Intn(len(noNodes))], r.Intn(66) - 1}[r.Intn(2):]
		want := m.Bound(members, k)
		if got := m.Bound(members, k); got != want || got > api.End {
			t.Fatalf("Bound(%v, %v) = %d, then %d", members, k, want, got)
		}
	}
	wantRows(t, m, row(0, 40, 2, 1), row(1, 50, 1, 2), row(63, greatest, all(64)...))
}

// TestManyMembers is P1: a list of members with more of them than there are nodes, and a floor with many numbers.
func TestManyMembers(t *testing.T) {
	m := of(row(0, 40, 2, 1), row(1, 50, 2, 1))
	members := make([]int, 1<<16)
	for i := range members {
		members[i] = i % 2
	}
	wantBound(t, "many members", m, members, matrix.Known{Floor: vector.Vector{2, 1}}, 40)
	wantBound(t, "a long floor", m, []int{0, 1}, matrix.Known{Floor: make(vector.Vector, 1<<20)}, 0) // node 0 has two events of its own
	wantBound(t, "a long floor", m, []int{0, 1}, matrix.Known{Floor: append(vector.Vector{2, 1}, make(vector.Vector, 1<<20)...)}, 40)
}

// TestQuestionsChangeNothing is P2: asked again, in any order, the answers are the same.
func TestQuestionsChangeNothing(t *testing.T) {
	r := rand.New(rand.NewSource(136))
	for range 50 {
		m, x := matrix.New(), &model{}
		for range 10 {
			one := randomRow(r, 5)
			m.Raise(one)
			x.raise(one)
		}
		k, members := randomKnown(r, 5), []int{r.Intn(5), r.Intn(5)}
		want := x.bound(members, k)
		for range 3 {
			wantBound(t, "again", m, members, k, want)
			wantModel(t, m, x)
		}
	}
}

// TestMatricesAreIndependent is P2: what one is told, another one does not know.
func TestMatricesAreIndependent(t *testing.T) {
	a, b := matrix.New(), matrix.New()
	a.Raise(row(0, 5, 1, 2))
	b.Raise(row(0, 3, 7))
	b.Raise(row(1, 4))
	a.Raise(row(2, 6))
	wantRows(t, a, row(0, 5, 1, 2), row(2, 6))
	wantRows(t, b, row(0, 3, 7), row(1, 4))
}

// TestWhatWasHandedOver: a matrix keeps none of it, and leaves it as it is, also behind its end.
func TestWhatWasHandedOver(t *testing.T) {
	m, x := matrix.New(), &model{}
	r := rand.New(rand.NewSource(137))
	for range 200 {
		one := randomRow(r, 4)
		if r.Intn(4) == 0 {
			one.Have = all(70)
		}
		room := append(slices.Clone(one.Have), 98, 99)
		before := slices.Clone(room)
		one.Have = room[:len(room)-2]
		m.Raise(one)
		x.raise(one)
		if !slices.Equal(room, before) {
			t.Fatalf("Raise has changed %v to %v", before, room)
		}
		for i := range room {
			room[i] = greatest
		}
		wantModel(t, m, x)
	}
}

// TestKnownStays: Bound leaves the members, the Floor and the Lists as they are.
func TestKnownStays(t *testing.T) {
	m := of(row(0, 50, 6, 2, 1, 7), row(1, 60, 7, 2, 0, 7))
	floor := vector.Vector{4, 2, 0, 7, 0, 0}
	members := []int{1, 0, 1}
	k := folded()
	k.Floor = floor[:5]
	wantBound(t, "known", m, members, k, 24)
	if !slices.Equal(floor, vector.Vector{4, 2, 0, 7, 0, 0}) || !slices.Equal(members, []int{1, 0, 1}) || len(k.Lists) != 3 {
		t.Errorf("Bound has changed its arguments: %v, %v, %d lists", floor, members, len(k.Lists))
	}
	for w, l := range folded().Lists {
		alike := func(a, b api.Event) bool {
			return a.Writer == b.Writer && a.Seq == b.Seq && a.Time == b.Time && a.Kind == b.Kind && a.Key == b.Key
		}
		if !slices.EqualFunc(k.Lists[w], l, alike) {
			t.Errorf("Bound has changed the list of %d: %v", w, k.Lists[w])
		}
	}
	floor[0], k.Lists[0], members[0] = 9, nil, 5
	k.Floor = vector.Vector{4, 2, 0, 7}
	wantBound(t, "other events", m, []int{0, 1}, k, 0) // node 0 has more of its own
	k.Lists[0] = list(0, 4, 10, 20, 30)
	wantBound(t, "the same events", m, []int{0, 1}, k, 24)
}

// TestWhatWasReturned: it may be written over and appended to, and shares no memory with other answers.
func TestWhatWasReturned(t *testing.T) {
	rows := []api.Row{row(0, 5, 1, 2), row(1, 0, all(64)...), row(5, 7), row(63, 9, 3)}
	m := of(rows...)
	spoil := func(r *api.Row) {
		wider := append(r.Have, 96, 97)
		for i := range wider {
			wider[i] = greatest
		}
		for i := range r.Have {
			r.Have[i] = greatest
		}
		r.Node, r.Time = 40, greatest
	}
	for range 3 {
		for _, want := range rows {
			a, b := m.Row(want.Node), m.Row(want.Node)
			spoil(&a)
			if !same(b, want) {
				t.Errorf("Row(%d) = %v after another answer was written over", want.Node, b)
			}
		}
		l, again := m.Rows(), m.Rows()
		for i := range l {
			spoil(&l[i])
			if i+1 < len(l) && !same(l[i+1], rows[i+1]) {
				t.Errorf("row %d = %v after the one before it was written over", i+1, l[i+1])
			}
		}
		clear(append(l, row(50, 50)))
		if !slices.EqualFunc(again, rows, same) {
			t.Errorf("Rows() = %v after another answer was written over", again)
		}
		wantRows(t, m, rows...)
	}
	wantBound(t, "after answers were written over", m, []int{0}, known(nil, []uint64{2}, []uint64{3, 4}), 5)
}

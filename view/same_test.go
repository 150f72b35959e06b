package view_test

import (
	"fmt"
	"math/rand"
	"testing"

	"anabranch/api"
	"anabranch/disk"
	"anabranch/view"
)

// The tests of P15.3.

// TestSameWhereverFoldsEnd: the same Mark and the same Fold, and all else that the state is seen by.
func TestSameWhereverFoldsEnd(t *testing.T) {
	for _, h := range histories() {
		none := by(t, h, 0)
		for folded := range len(h.l) + 1 {
			v := by(t, h, folded)
			if v.Mark() != none.Mark() || v.Mark() != h.mark() || v.Mark() != v.Fold().Mark() {
				t.Errorf("%s, %d folded: Mark() = %x, want %x", h.name, folded, v.Mark(), none.Mark())
			}
			if string(v.Fold().Encode()) != string(none.Fold().Encode()) || v.Fold().Last() != h.last() {
				t.Errorf("%s, %d folded: Fold() = %.200q, want %.200q", h.name, folded, v.Fold().Encode(), none.Fold().Encode())
			}
			wantState(t, h.name, v, h)
		}
	}
}

// TestSameAfterFoldingInSteps: a fold may be that of another view, again and again.
func TestSameAfterFoldingInSteps(t *testing.T) {
	r := rand.New(rand.NewSource(153))
	for _, h := range histories() {
		none := by(t, h, 0)
		v, folded := by(t, h.first(0), 0), 0
		for folded < len(h.l) {
			next := folded + 1 + r.Intn(len(h.l)-folded)
			w, e := view.By(v.Fold(), [][]api.Event{h.l[folded:next]})
			wantOK(t, "By", e)
			v, folded = w, next
		}
		if v.Mark() != none.Mark() || string(v.Fold().Encode()) != string(none.Fold().Encode()) {
			t.Errorf("%s: Mark() = %x, want %x", h.name, v.Mark(), none.Mark())
		}
	}
}

// TestSameOfStores: of different nodes, which have folded different events, some by Install.
func TestSameOfStores(t *testing.T) {
	h := replicated()
	want := by(t, h, 0)
	for time := range h.last().Time + 1 {
		a := stored(t, h, disk.New(1<<20), 0, 60)
		wantOK(t, "Truncate", a.Truncate(time))
		b := opened(t, h, disk.New(1<<20), 1, 0)
		if time > 0 {
			wantOK(t, "Install", b.Install(a.Base().Encode(), time))
		}
		_, e := b.Put(a.Floor(), h.l)
		wantOK(t, "Put", e)
		wantOK(t, "Truncate", b.Truncate((time+h.last().Time)/2))
		for _, v := range []*view.View{view.Of(a), view.Of(b)} {
			if v.Mark() != want.Mark() || string(v.Fold().Encode()) != string(want.Fold().Encode()) {
				t.Errorf("folded up to %d: Mark() = %x, want %x", time, v.Mark(), want.Mark())
			}
		}
	}
}

// TestMarkTellsViewsApart: those with other events, if only with the last one more.
func TestMarkTellsViewsApart(t *testing.T) {
	seen := map[uint64]string{}
	for _, h := range histories()[3:] {
		for n := 1; n <= len(h.l); n++ {
			v, what := by(t, h.first(n), n/2), fmt.Sprint(h.l[:n])
			if other, ok := seen[v.Mark()]; ok && other != what {
				t.Errorf("%s: the mark of other events", h.first(n).name)
			}
			seen[v.Mark()] = what
		}
	}
}

package view_test

import (
	"math"
	"slices"
	"testing"

	"anabranch/api"
	"anabranch/disk"
	"anabranch/fold"
	"anabranch/view"
)

// The tests of P1 and P2, and of the rule on memory.

// TestNil is P1 and the chapter's last sentence: a nil view returns ErrNone, false, 0 and zero values.
func TestNil(t *testing.T) {
	var v *view.View
	if v.Keys() != nil || v.Len() != 0 || v.Have() != nil || v.Mark() != 0 || v.Members() != nil || v.Fold() != nil || v.Base() != nil {
		t.Error("a nil view tells something")
	}
	for _, key := range []string{"", "k", longKey, longKey + "k"} {
		if c, ok := v.Cell(key); ok || !sameCell(c, api.Cell{}) {
			t.Errorf("Cell(%q) = %v, %v", key, c, ok)
		}
	}
	for _, i := range outside(0) {
		if e, ok := v.At(i); ok || !same(e, api.Event{}) {
			t.Errorf("At(%d) = %v, %v", i, e, ok)
		}
	}
	for _, s := range places(ranged().l) {
		for _, most := range []int{math.MinInt, -1, 0, 1, math.MaxInt} {
			if l, e := v.Range(s, most); l != nil || e != api.ErrNone {
				t.Errorf("Range(%v, %d) = %v, %d", s, most, l, e)
			}
		}
	}
}

// TestOddViews is P1: all calls end without a panic for a view that Of and By did not make.
func TestOddViews(t *testing.T) {
	v := &view.View{}
	v.Cell("k")
	v.Keys()
	v.Len()
	v.Have()
	v.Mark()
	v.Members()
	v.Fold()
	v.Base()
	for _, i := range outside(0) {
		v.At(i)
	}
	for _, s := range places(ranged().l) {
		v.Range(s, 1)
	}
}

// TestTheSameAgain is P2: queries change nothing, in whichever order, and equal views have equal answers.
func TestTheSameAgain(t *testing.T) {
	for _, h := range histories() {
		folded := len(h.l) / 3
		v, w := by(t, h, folded), by(t, h, folded)
		for range 3 {
			wantView(t, h.name, v, h, folded)
		}
		wantView(t, h.name+", another view", w, h, folded)
	}
}

// TestOneFoldOfSeveralViews: they are independent of each other and of the fold, which is as it was.
func TestOneFoldOfSeveralViews(t *testing.T) {
	h := ranged()
	f := h.first(4).fold(t)
	var l []*view.View
	for n := 4; n <= len(h.l); n++ {
		v, e := view.By(f, [][]api.Event{h.l[4:n]})
		wantOK(t, "By", e)
		l = append(l, v)
		if string(f.Encode()) != h.first(4).encoded() {
			t.Fatalf("By has changed the fold: %q", f.Encode())
		}
	}
	for _, wrong := range []api.Event{at(1, 9, 20, drop("k")), {}, h.l[0]} {
		if v, e := view.By(f, [][]api.Event{h.l[4:], {wrong}}); v != nil || e == api.OK || string(f.Encode()) != h.first(4).encoded() {
			t.Fatalf("By has changed the fold, with an error %d: %q", e, f.Encode())
		}
	}
	for i, v := range l {
		wantView(t, "one of several", v, h.first(4+i), 4)
	}
}

// TestTheFoldGoesOn: what becomes of the fold that was handed over does not matter to the view.
func TestTheFoldGoesOn(t *testing.T) {
	for _, h := range histories() {
		folded := len(h.l) / 2
		f := h.first(folded).fold(t)
		v, e := view.By(f, [][]api.Event{h.l[folded:]})
		wantOK(t, "By", e)
		spoilFold(f)
		wantView(t, h.name, v, h, folded)
	}
}

// spoilFold applies events of each kind to a fold, at the first possible time; none, if there is no further time.
func spoilFold(f *fold.Fold) {
	for i, e := range []api.Event{set("k", "spoilt"), put("a", 99), add("n", 99), join(33), drop("k"), set("b", "spoilt"), retire()} {
		w := i % 2
		f.Apply(at(w, f.Have().Get(w)+1, f.Last().Time+1, e))
	}
}

// TestArguments: they are not changed, nor what is behind them, and what a caller does with them later does not matter.
func TestArguments(t *testing.T) {
	for _, h := range histories() {
		folded := len(h.l) / 2
		for _, s := range splits(h.l[folded:]) {
			lists := copied(s.lists)
			for i, l := range lists {
				for j, e := range l {
					l[j].Text = append(slices.Clone(e.Text), "behind"...)[:len(e.Text)]
				}
				lists[i] = append(l, at(9, 9, 9, drop("behind")), at(9, 10, 10, drop("behind")))[:len(l)]
			}
			lists = append(lists, nil, nil)[:len(lists)]
			v, e := view.By(h.first(folded).fold(t), lists)
			wantOK(t, "By", e)
			for i, l := range lists {
				if !slices.EqualFunc(l, s.lists[i], same) || !slices.EqualFunc(l[:len(l)+2][len(l):], []api.Event{at(9, 9, 9, drop("behind")), at(9, 10, 10, drop("behind"))}, same) {
					t.Fatalf("%s, %s: list %d has changed: %v", h.name, s.name, i, l)
				}
				for _, e := range l {
					if string(e.Text[:len(e.Text)+6][len(e.Text):]) != "behind" {
						t.Fatalf("%s, %s: what is behind a text has changed", h.name, s.name)
					}
					copy(e.Text, "XXXX")
					_ = append(e.Text, "XXXXXX"...)
				}
				clear(l)
				lists[i] = append(l, at(0, 1, 1, drop("X")))
			}
			wantView(t, h.name+", "+s.name, v, h, folded)
		}
	}
}

// TestAnswers: a caller may append to what was returned, and may do with copies what it likes.
func TestAnswers(t *testing.T) {
	for _, h := range histories() {
		folded := len(h.l) / 2
		v := by(t, h, folded)
		for range 2 {
			spoilEvents(t, v, h.first(folded).last())
			for _, key := range h.keys() {
				c, _ := v.Cell(key)
				_ = append(c.Text, "XXXX"...)
				copy(c.Text, "XXXX")
			}
			keys, members, have := v.Keys(), v.Members(), v.Have()
			_, _, _ = append(keys, "X"), append(members, 7), append(have, 7)
			clear(keys)
			clear(members)
			clear(have)
			spoilFold(v.Fold())
			spoilFold(v.Base())
			wantView(t, h.name, v, h, folded)
		}
	}
}

// spoilEvents appends to all that At and Range return and overwrites it, after a check that no two answers share memory.
func spoilEvents(t *testing.T, v *view.View, last api.Spot) {
	t.Helper()
	l, e := v.Range(last, v.Len())
	wantOK(t, "Range", e)
	others, _ := v.Range(last, v.Len())
	for i := range v.Len() {
		x, _ := v.At(i)
		y, _ := v.At(i)
		one, other := append(x.Text, 'x'), append(y.Text, 'y')
		if one[len(x.Text)] != 'x' || other[len(y.Text)] != 'y' {
			t.Error("two texts of At share memory")
		}
		again := x // copies of an event have the same text
		if a, b := append(x.Text, 'a'), append(again.Text, 'b'); a[len(x.Text)] != 'a' || b[len(x.Text)] != 'b' {
			t.Error("what is appended to the text of a copy is in the other one")
		}
		copy(x.Text, "XXXX")
		if string(y.Text) != string(l[i].Text) {
			t.Error("At and Range share memory")
		}
		copy(l[i].Text, "YYYY")
		if string(y.Text) != string(others[i].Text) {
			t.Error("two Ranges share memory")
		}
		_ = append(l[i].Text, "YYYY"...)
		l[i] = at(9, 9, 9, drop("X"))
	}
	_ = append(l, at(9, 9, 9, drop("X")))
}

// TestAnswersAreIndependent: what was returned stays as it is, and goes its own way.
func TestAnswersAreIndependent(t *testing.T) {
	h := replicated()
	s := stored(t, h, disk.New(1<<20), 0, 60)
	wantOK(t, "Truncate", s.Truncate(3))
	v := view.Of(s)
	a, b, base := v.Fold(), v.Fold(), v.Base()
	spoilFold(a)
	if string(b.Encode()) != h.encoded() || string(base.Encode()) != h.first(h.upto(3)).encoded() || string(a.Encode()) == h.encoded() {
		t.Error("two answers share memory")
	}
	spoilFold(base)
	if string(s.Base().Encode()) != h.first(h.upto(3)).encoded() {
		t.Error("the store's fold has changed")
	}
	wantView(t, "after changes of its answers", v, h, h.upto(3))
	wantView(t, "another view", view.Of(s), h, h.upto(3))
}

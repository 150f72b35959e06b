package store_test

import (
	"fmt"
	"math"
	"slices"
	"testing"

	"anabranch/api"
	"anabranch/disk"
	"anabranch/store"
)

// TestNil is P1 and the chapter's last sentence: a nil store returns ErrNone, 0, zero values and false.
func TestNil(t *testing.T) {
	var s *store.Store
	if s.Node() != 0 || s.Clock() != 0 || s.Floor() != nil || s.Time() != 0 || s.Have() != nil || s.Members() != nil || s.Base() != nil ||
		s.Lists() != nil || s.Files() != nil {
		t.Error("a nil store tells something")
	}
	for _, n := range append(slices.Clone(noNodes), 0, 1, 63) {
		if s.Member(n) || s.Joined(n) || s.Feed(n) != nil {
			t.Errorf("a nil store tells something of %d", n)
		}
	}
	for kind := range byte(9) {
		x, e := s.Write(of(kind))
		wantError(t, "Write", e, api.ErrNone)
		wantEvents(t, "Write", []api.Event{x}, []api.Event{{}})
	}
	right := []byte(history{nodes: 2, l: []api.Event{at(0, 1, 1, drop("k"))}}.encoded())
	for _, l := range [][]api.Event{nil, {at(0, 1, 1, drop("k"))}, {at(0, 1, 2, drop("k")), at(0, 1, 1, drop("k"))}} {
		for _, base := range [][]uint64{nil, {1}} {
			if n, e := s.Put(base, l); n != 0 || e != api.ErrNone {
				t.Errorf("Put = %d, %d", n, e)
			}
		}
	}
	for _, time := range []uint64{0, 1, math.MaxUint64} {
		wantError(t, "Truncate", s.Truncate(time), api.ErrNone)
		wantError(t, "Install", s.Install(nil, time), api.ErrNone)
		wantError(t, "Install", s.Install(right, time), api.ErrNone)
	}
}

// TestOddStores is P1: all calls end without a panic for a store that Open did not make, and for one whose disk has stopped.
func TestOddStores(t *testing.T) {
	off := written(t, 60)
	stop(off.d)
	torn := written(t, 60)
	torn.d.Arm(3, 9)
	torn.s.Truncate(9)
	for _, s := range []*store.Store{{}, off.s, torn.s} {
		s.Node()
		s.Clock()
		s.Floor()
		s.Time()
		s.Have()
		s.Members()
		s.Base()
		s.Lists()
		s.Files()
		for _, n := range append(slices.Clone(noNodes), 0, 1, 63) {
			s.Member(n)
			s.Joined(n)
			s.Feed(n)
		}
		for kind := range byte(9) {
			s.Write(of(kind))
		}
		for _, l := range [][]api.Event{nil, {{}}, {at(0, 4, 13, drop("k")), at(1, 3, 14, drop("k"))}, {at(0, 5, 13, drop("k"))}, {at(0, 1, 13, drop("k"))}} {
			s.Put(nil, l)
			s.Put([]uint64{1}, l)
		}
		for _, time := range []uint64{0, 1, 12, 99, math.MaxUint64} {
			s.Truncate(time)
			s.Install(nil, time)
			s.Install([]byte(encodedAt([]uint64{9, 9, 9}, api.Spot{}, 3, 0)), time)
			s.Install([]byte(encodedAt(slices.Repeat([]uint64{api.End}, 64), api.Spot{}, 0, 0)), time)
		}
	}
}

// TestTheSameAgain is P2: queries change nothing, and equal calls of equal stores have equal answers.
func TestTheSameAgain(t *testing.T) {
	a, b := written(t, 100), written(t, 100)
	for range 3 {
		a.check(t, "again")
		if told(a.s) != told(b.s) || !slices.Equal(a.s.Files(), b.s.Files()) {
			t.Error("equal stores differ")
		}
	}
	a.truncate(t, 8)
	b.truncate(t, 8)
	b.check(t, "truncated")
	if told(a.s) != told(b.s) {
		t.Error("equal stores differ")
	}
}

// TestArguments: arguments are not changed, and what a caller does with them later does not matter.
func TestArguments(t *testing.T) {
	p := begin(t, 0, 3, 60)
	e := set("k", "text")
	e.Text = append(make([]byte, 0, 64), e.Text...)
	p.writes(t, e)
	list := []api.Event{at(1, 1, 2, set("a", "some")), at(2, 1, 2, set("b", "more")), at(1, 2, 3, of(api.Join))}
	list = append(make([]api.Event, 0, 9), list...)
	base := append(make([]uint64, 0, 9), 1, 0, 0)
	was := slices.Clone(list)
	p.put(t, base, list...)
	wantEvents(t, "the argument", list, was)
	if string(e.Text[:cap(e.Text)]) != "text"+string(make([]byte, 60)) || !slices.Equal(base[:9], []uint64{1, 0, 0, 0, 0, 0, 0, 0, 0}) || list[:4][3].Kind != 0 {
		t.Error("an argument, or what is behind it, has changed")
	}
	p.m = p.m.clone()
	for w, l := range p.m.rest {
		for i, x := range l {
			p.m.rest[w][i].Text = slices.Clone(x.Text)
		}
	}
	copy(e.Text, "XXXX")
	for i := range list {
		copy(list[i].Text, "XXXX")
		list[i].Key, list[i].Writer = "X", 7
	}
	base[0] = 99
	p.check(t, "the arguments were changed")

	h := history{nodes: 3, l: slices.Clone(p.m.all().l)}
	h.sort()
	h.l = append(h.l, at(2, 2, 9, set("c", "text")))
	b := []byte(h.encoded())
	p.m.install(h, 9)
	wantError(t, "Install", p.s.Install(b, 9), api.OK)
	if string(b) != h.encoded() {
		t.Error("the argument has changed")
	}
	for i := range b {
		b[i] = 'X'
	}
	p.check(t, "the argument was changed")
}

// TestAnswers: a caller may append to what was returned, and may do with copies what it likes.
func TestAnswers(t *testing.T) {
	p := written(t, 60)
	p.truncate(t, 4)
	more := at(1, 9, 99, drop("X"))
	for range 2 {
		lists := p.s.Lists()
		for w, l := range lists {
			lists[w] = append(l, more, more)
			for i := range l {
				_ = append(l[i].Text, "X"...)
			}
		}
		_ = append(lists, lists[0])
		for _, v := range [][]uint64{p.s.Floor(), p.s.Have()} {
			_ = append(v, 7)
			for i := range v {
				v[i] = 99
			}
		}
		members := p.s.Members()
		for i := range members {
			members[i] = 99
		}
		files := p.s.Files()
		for i := range files {
			files[i] = "X"
		}
		wantError(t, "Apply", p.s.Base().Apply(at(1, 1, 5, drop("X"))), api.OK)
		p.check(t, "after a caller's changes")
	}
	x, _ := p.s.Write(set("k", "text"))
	p.m.write(set("k", "text"))
	copy(x.Text, "XXXX")
	_ = append(x.Text, "X"...)
	p.check(t, "after a change of what Write returned")
}

// TestAnswersStay: what was returned does not change with the store.
func TestAnswersStay(t *testing.T) {
	p := written(t, 60)
	p.truncate(t, 4)
	floor, have, members, base, lists, files := p.s.Floor(), p.s.Have(), p.s.Members(), p.s.Base(), p.s.Lists(), p.s.Files()
	was := fmt.Sprint(floor, have, members, base.Encode(), listed(lists), files)
	p.writes(t, join(9), set("k", "more"))
	p.truncate(t, 12)
	h := history{nodes: 3, l: slices.Clone(p.m.all().l)}
	h.sort()
	h.l = append(h.l, at(1, 3, 50, join(11)))
	p.install(t, h, 60)
	p.check(t, "after more")
	if got := fmt.Sprint(floor, have, members, base.Encode(), listed(lists), files); got != was {
		t.Errorf("%.300s, want %.300s", got, was)
	}
}

// TestListsShareNothing: what a caller appends to one list, or to a text, is in no other one.
func TestListsShareNothing(t *testing.T) {
	p := begin(t, 0, 3, large)
	for i := range uint64(9) {
		p.puts(t, at(0, i+1, 2*i+1, set("k", "text")), at(1, i+1, 2*i+1, set("k", "text")))
	}
	a, b := p.s.Lists(), p.s.Lists()
	for w := range 2 {
		x := append(a[w], at(w, 10, 99, set("a", "a")))
		y := append(b[w], at(w, 10, 99, set("b", "b")))
		if x[9].Key != "a" || y[9].Key != "b" {
			t.Error("two lists share memory")
		}
		for i := range 9 {
			x, y := append(a[w][i].Text, 'a'), append(b[w][i].Text, 'b')
			if x[4] != 'a' || y[4] != 'b' {
				t.Error("two texts share memory")
			}
		}
	}
	p.check(t, "after appending")
}

// TestStoppedDisk: with each call, a disk that stops is told as ErrStop.
func TestStoppedDisk(t *testing.T) {
	for _, do := range []func(s *store.Store) api.Errno{
		func(s *store.Store) api.Errno { _, e := s.Write(drop("k")); return e },
		func(s *store.Store) api.Errno { _, e := s.Put(nil, []api.Event{at(1, 3, 20, drop("k"))}); return e },
		func(s *store.Store) api.Errno { return s.Truncate(12) },
		func(s *store.Store) api.Errno {
			return s.Install([]byte(encodedAt([]uint64{9, 9, 9}, api.Spot{}, 3, 0)), 8)
		},
	} {
		for n := range 4 {
			p := written(t, 60)
			p.d.Arm(n, 0)
			e := do(p.s)
			if p.d.On() {
				wantError(t, "a call of fewer operations", e, api.OK)
				continue
			}
			wantError(t, "the call", e, api.ErrStop)
			if s, e := store.Open(p.d, 0, 3, 60); s != nil || e != api.ErrStop {
				t.Errorf("Open: %v, %d", s, e)
			}
		}
	}
	if s, e := store.Open(disk.New(0), 0, 1, 0); s != nil || e != api.ErrFull {
		t.Errorf("Open: %v, %d", s, e)
	}
}

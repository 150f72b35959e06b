package view_test

import (
	"fmt"
	"math"
	"math/rand"
	"slices"
	"strings"
	"testing"

	"anabranch/api"
	"anabranch/fold"
	"anabranch/order"
	"anabranch/view"
)

// The tests of By (P15.1).

// TestExample: that of the chapter.
func TestExample(t *testing.T) {
	v, e := view.By(fold.New(1), [][]api.Event{})
	if e != api.OK || v.Len() != 0 {
		t.Errorf("By = %v, %d; Len() = %d", v != nil, e, v.Len())
	}
}

// TestByOfNoLists: the view is what the fold is, whether or not it has events.
func TestByOfNoLists(t *testing.T) {
	for _, h := range histories() {
		for _, lists := range [][][]api.Event{nil, {}, {nil}, {{}}, {nil, {}, nil}, make([][]api.Event, 64), make([][]api.Event, 1000)} {
			v, e := view.By(h.fold(t), lists)
			if e != api.OK {
				t.Fatalf("%s: By of %d lists: %d", h.name, len(lists), e)
			}
			wantView(t, h.name, v, h, len(h.l))
		}
	}
	for _, nodes := range []int{-1, 0, 1, 63, 64, 65} {
		v, e := view.By(fold.New(nodes), nil)
		if e != api.OK {
			t.Fatalf("By of %d nodes: %d", nodes, e)
		}
		wantView(t, "no events", v, history{nodes: min(max(nodes, 0), 64)}, 0)
	}
}

// TestBy: the same view, wherever the fold ends and however the events after it are split into lists.
func TestBy(t *testing.T) {
	for _, h := range histories() {
		step := 1 + len(h.l)/10
		for folded := 0; folded <= len(h.l); folded += step {
			for _, s := range splits(h.l[folded:]) {
				what := fmt.Sprintf("%s, %d folded, %s", h.name, folded, s.name)
				v, e := view.By(h.first(folded).fold(t), s.lists)
				if e != api.OK || v == nil {
					t.Fatalf("%s: By = %v, %d", what, v != nil, e)
				}
				wantView(t, what, v, h, folded)
			}
		}
	}
}

// TestByNumbers: events of two writers behind a fold, with what there is to see written out.
func TestByNumbers(t *testing.T) {
	base := fold.New(2)
	for _, e := range []api.Event{at(0, 1, 1, put("n", 1)), at(1, 1, 1, set("gone", "x")), at(0, 2, 4, set("k", "old"))} {
		base.Apply(e)
	}
	v, e := view.By(base, [][]api.Event{
		{at(1, 2, 5, add("n", 2)), at(1, 3, 7, retire())},
		{at(0, 3, 5, drop("gone")), at(0, 4, 6, join(9)), at(0, 5, 8, set("k", "new"))},
	})
	if e != api.OK || v.Len() != 5 {
		t.Fatalf("By = %v, %d", v != nil, e)
	}
	for i, want := range []api.Spot{spot(5, 0), spot(5, 1), spot(6, 0), spot(7, 1), spot(8, 0)} {
		if e, ok := v.At(i); !ok || place(e) != want {
			t.Errorf("At(%d) = %v, %v, want %v", i, place(e), ok, want)
		}
	}
	if c, ok := v.Cell("n"); !ok || c.Kind != api.Put || c.Num != 3 {
		t.Errorf("n = %v, %v", c, ok)
	}
	if c, ok := v.Cell("k"); !ok || c.Kind != api.Set || string(c.Text) != "new" {
		t.Errorf("k = %v, %v", c, ok)
	}
	if c, ok := v.Cell("gone"); ok || !sameCell(c, api.Cell{}) {
		t.Errorf("gone = %v, %v", c, ok)
	}
	if !slices.Equal(v.Keys(), []string{"k", "n"}) || !slices.Equal(v.Have(), []uint64{5, 3}) || !slices.Equal(v.Members(), []int{0, 9}) {
		t.Errorf("Keys() = %q, Have() = %v, Members() = %v", v.Keys(), v.Have(), v.Members())
	}
	if f := v.Fold(); f.Last() != spot(8, 0) || f.Mark() != v.Mark() || f.Mark() == base.Mark() {
		t.Errorf("Fold(): Last %v, Mark %x", f.Last(), f.Mark())
	}
	b := v.Base()
	if b.Last() != spot(4, 0) || b.Mark() != base.Mark() || !slices.Equal(b.Keys(), []string{"gone", "k", "n"}) || !slices.Equal(b.Have(), []uint64{2, 1}) || !slices.Equal(b.Members(), []int{0, 1}) {
		t.Errorf("Base(): Last %v, Keys %q, Have %v, Members %v", b.Last(), b.Keys(), b.Have(), b.Members())
	}
}

// TestByOfADecodedFold: it is as good as one to which events were applied.
func TestByOfADecodedFold(t *testing.T) {
	for _, h := range histories() {
		folded := len(h.l) / 2
		f, e := fold.Decode([]byte(h.first(folded).encoded()))
		if e != api.OK {
			t.Fatalf("%s: Decode: %d", h.name, e)
		}
		v, e := view.By(f, [][]api.Event{h.l[folded:]})
		if e != api.OK {
			t.Fatalf("%s: By: %d", h.name, e)
		}
		wantView(t, h.name, v, h, folded)
	}
}

// TestByOfTheLongestText: with its own size and that of its key at the limit.
func TestByOfTheLongestText(t *testing.T) {
	h := history{name: "the longest text", nodes: 1}
	h.add(1, 0, set(longKey, strings.Repeat("t", api.MaxText)))
	wantView(t, h.name, by(t, h, 0), h, 0)
	wantView(t, h.name, by(t, h, 1), h, 1)
}

// TestByKeepsEventsAsTheyAre: also the fields that their kinds do not use, as order.All does.
func TestByKeepsEventsAsTheyAre(t *testing.T) {
	var l []api.Event
	for i := range uint64(6) {
		l = append(l, api.Event{Writer: 3, Seq: i + 1, Time: i + 1, Kind: byte(i + 1), Key: "k", Text: []byte("text"), Num: otherNaN, Node: 5})
	}
	v, e := view.By(fold.New(1), [][]api.Event{l})
	if e != api.OK {
		t.Fatalf("By: %d", e)
	}
	wantView(t, "events with all fields", v, history{nodes: 1, l: l}, 0)
}

// TestByErrors: each of fold.Apply, behind a fold whose last event is at 5.2, with two events of writer 2 and one of 0.
func TestByErrors(t *testing.T) {
	h := history{nodes: 3}
	h.add(1, 2, set("k", "x"))
	h.add(3, 0, put("n", 1))
	h.add(5, 2, add("n", 1))
	long := strings.Repeat("k", api.MaxKey+1)
	for _, c := range []struct {
		what string
		e    api.Event
		want api.Errno
	}{
		{"the next event", at(2, 3, 6, drop("k")), api.OK},
		{"the next event of the same time", at(3, 1, 5, drop("k")), api.OK},
		{"the next event, at the end", at(0, 2, api.End, drop("k")), api.OK},
		{"the position of the last one", at(2, 3, 5, drop("k")), api.ErrOld},
		{"the last one again", h.l[2], api.ErrOld},
		{"the first one again", h.l[0], api.ErrOld},
		{"the time of the last one, of an earlier writer", at(1, 1, 5, drop("k")), api.ErrOld},
		{"a time before the last one", at(0, 2, 4, drop("k")), api.ErrOld},
		{"a time before the last one, and a number that is missing", at(0, 3, 4, drop("k")), api.ErrOld},
		{"a number that is missing", at(2, 4, 6, drop("k")), api.ErrGap},
		{"a number again", at(2, 2, 6, drop("k")), api.ErrGap},
		{"the first number again", at(0, 1, 6, drop("k")), api.ErrGap},
		{"a second event of a writer without a first one", at(63, 2, 6, drop("k")), api.ErrGap},
		{"the last number", at(0, api.End, 6, drop("k")), api.ErrGap},
		{"no number", at(2, 0, 6, drop("k")), api.ErrArg},
		{"no time", at(2, 3, 0, drop("k")), api.ErrArg},
		{"no writer", at(64, 1, 6, drop("k")), api.ErrArg},
		{"a writer below 0", at(-1, 1, 6, drop("k")), api.ErrArg},
		{"a writer far above", at(math.MaxInt, 1, 6, drop("k")), api.ErrArg},
		{"no kind", at(2, 3, 6, api.Event{Key: "k"}), api.ErrArg},
		{"a kind that does not exist", at(2, 3, 6, api.Event{Kind: 7, Key: "k"}), api.ErrArg},
		{"no node", at(2, 3, 6, join(64)), api.ErrArg},
		{"a node below 0", at(2, 3, 6, join(-1)), api.ErrArg},
		{"no key", at(2, 3, 6, put("", 1)), api.ErrLong},
		{"a long key", at(2, 3, 6, drop(long)), api.ErrLong},
		{"a long text", at(2, 3, 6, set("k", strings.Repeat("t", api.MaxText+1))), api.ErrLong},
		{"a number behind the last one", at(2, api.End+1, 6, drop("k")), api.ErrExhausted},
		{"a time behind the end", at(2, 3, api.End+1, drop("k")), api.ErrExhausted},
	} {
		for _, lists := range [][][]api.Event{{{c.e}}, {nil, {c.e}, {}}} {
			wantBy(t, c.what, h, lists, c.want)
		}
		if c.want != api.OK && c.e.Time == 6 { // then it is wrong behind others that are right, too
			c.e.Time = 8
			others := []api.Event{at(3, 1, 5, drop("k")), at(3, 2, 6, drop("k"))}
			wantBy(t, c.what+", behind others", h, [][]api.Event{{c.e}, others}, c.want)
			wantBy(t, c.what+", between others", h, [][]api.Event{append(others, at(3, 3, 9, drop("k"))), {c.e}}, c.want)
		}
	}
}

// wantBy checks the error of By, with the fold of h.
func wantBy(t *testing.T, what string, h history, lists [][]api.Event, want api.Errno) {
	t.Helper()
	v, e := view.By(h.fold(t), lists)
	if e != want || (v == nil) != (want != api.OK) {
		t.Errorf("By of %s: %v, %d, want %d", what, v != nil, e, want)
	}
}

// TestByOfSeveralErrors: that of the first event, in the order of all events, that cannot be applied.
func TestByOfSeveralErrors(t *testing.T) {
	gap, long, bad := at(1, 9, 4, drop("k")), at(2, 1, 6, drop("")), at(0, 2, 8, api.Event{Kind: 9})
	good := at(0, 1, 2, set("k", "x"))
	for _, c := range []struct {
		lists [][]api.Event
		want  api.Errno
	}{
		{[][]api.Event{{good}}, api.OK},
		{[][]api.Event{{good, bad}}, api.ErrArg},
		{[][]api.Event{{good, bad}, {long}}, api.ErrLong},
		{[][]api.Event{{good, bad}, {gap}, {long}}, api.ErrGap},
		{[][]api.Event{{long}, {gap}, {good, bad}}, api.ErrGap},
		{[][]api.Event{{good, gap, long, bad}}, api.ErrGap},
		{[][]api.Event{{good, gap, long, bad}, {good}}, api.ErrOld},
		{[][]api.Event{{good, long}, {at(3, 1, 5, join(77))}}, api.ErrArg},
	} {
		wantBy(t, fmt.Sprint(c.lists), history{nodes: 3}, c.lists, c.want)
	}
}

// TestByOfListsThatAreNotInOrder: an event then comes before one that was applied, unless another error is found first.
func TestByOfListsThatAreNotInOrder(t *testing.T) {
	a, b, c := at(0, 1, 1, set("k", "x")), at(1, 1, 2, put("n", 1)), at(0, 2, 3, drop("k"))
	for _, lists := range [][][]api.Event{{{a, c, b}}, {{b, a, c}}, {{b, a}, {c}}, {{a, b, b, c}}, {{a, c}, {b}, {b}}, {{a, c}, {b}, {c}}} {
		wantBy(t, fmt.Sprint(lists), history{nodes: 2}, lists, api.ErrOld)
	}
	wantBy(t, "the second one of a writer first", history{nodes: 2}, [][]api.Event{{c, a, b}}, api.ErrGap)
}

// TestByOfRandomErrors: By accepts what fold.Apply does, for lists of which an event or the order was changed.
func TestByOfRandomErrors(t *testing.T) {
	r := rand.New(rand.NewSource(152))
	seen := map[api.Errno]int{}
	for range 3000 {
		h := random(r, "random", 3+r.Intn(12))
		folded := r.Intn(len(h.l))
		all := splits(slices.Clone(h.l[folded:]))
		lists := copied(all[r.Intn(len(all))].lists)
		spoil(r, lists)
		f, want := h.first(folded).fold(t), api.OK
		for _, e := range order.All(lists) {
			if want = f.Apply(e); want != api.OK {
				break
			}
		}
		v, e := view.By(h.first(folded).fold(t), lists)
		if e != want || (v == nil) != (want != api.OK) {
			t.Fatalf("By = %v, %d, want %d", v != nil, e, want)
		}
		if v != nil && (v.Mark() != f.Mark() || string(v.Fold().Encode()) != string(f.Encode())) {
			t.Fatalf("By of %v: another state", lists)
		}
		seen[want]++
	}
	for _, e := range []api.Errno{api.OK, api.ErrArg, api.ErrLong, api.ErrExhausted, api.ErrOld, api.ErrGap} {
		if seen[e] < 30 {
			t.Errorf("error %d: %d times; all: %v", e, seen[e], seen)
		}
	}
}

// spoil changes an event of lists, or exchanges two of a list.
func spoil(r *rand.Rand, lists [][]api.Event) {
	for {
		l := lists[r.Intn(len(lists))]
		if len(l) == 0 {
			continue
		}
		i, j := r.Intn(len(l)), r.Intn(len(l))
		switch e := &l[i]; r.Intn(9) {
		case 0:
			l[i], l[j] = l[j], l[i]
		case 1:
			e.Time = uint64(r.Intn(20))
		case 2:
			e.Time += api.End
		case 3:
			e.Seq = uint64(r.Intn(6))
		case 4:
			e.Seq += api.End
		case 5:
			e.Writer = r.Intn(80) - 8
		case 6:
			e.Kind = byte(r.Intn(9))
		case 7:
			e.Key = strings.Repeat("k", r.Intn(2)*65)
		case 8:
			e.Text, e.Num, e.Node = []byte("other"), 7, 9
		}
		return
	}
}

// TestByOfANilFold: ErrNone, whatever the lists are.
func TestByOfANilFold(t *testing.T) {
	for _, lists := range [][][]api.Event{nil, {}, {nil, {}}, {{at(0, 1, 1, drop("k"))}}, {{{}}}, {{at(0, 9, 1, drop("k")), at(0, 1, 0, drop(""))}}} {
		if v, e := view.By(nil, lists); v != nil || e != api.ErrNone {
			t.Errorf("By(nil, %v) = %v, %d", lists, v != nil, e)
		}
	}
}

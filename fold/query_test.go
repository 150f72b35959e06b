package fold_test

import (
	"fmt"
	"hash/fnv"
	"math/rand"
	"slices"
	"strings"
	"testing"

	"anabranch/api"
)

// The tests of P11.2.

func TestStates(t *testing.T) {
	for _, p := range plays(t) {
		wantState(t, "a state", p)
	}
}

func TestCellOfWhatIsNoKey(t *testing.T) {
	for _, p := range plays(t) {
		for _, key := range []string{"", "nothing", "k\x00", longKey + "k", strings.Repeat("x", 1<<20)} {
			if c, ok := p.f.Cell(key); ok || !sameCell(c, api.Cell{}) {
				t.Errorf("Cell(%.20q) = %v, %v", key, c, ok)
			}
		}
	}
}

// TestKeysIncrease: by their bytes, in whichever order they were set.
func TestKeysIncrease(t *testing.T) {
	sorted := []string{
		"\x00", "\x00\x00", "\x01", " ", "-", "0", "00", "1", "10", "9", "A", "B", "Z", "a", "aB", "aa", "ab", "b", "k", longKey,
		"\x7f", "\x80", "\xc3\xa4", "\xe2\x82\xac", "\xf0\x9f\x98\x80", "\xff", "\xff\x00", "\xff\xff",
	}
	r := rand.New(rand.NewSource(112))
	for range 50 {
		p := begin(1)
		for _, i := range r.Perm(len(sorted)) {
			p.apply(t, 0, []api.Event{set(sorted[i], "x"), put(sorted[i], 1), add(sorted[i], 1)}[r.Intn(3)])
		}
		if l := p.f.Keys(); !slices.Equal(l, sorted) {
			t.Fatalf("Keys() = %q", l)
		}
		gone := r.Intn(len(sorted))
		p.apply(t, 0, drop(sorted[gone]))
		if l := p.f.Keys(); !slices.Equal(l, slices.Delete(slices.Clone(sorted), gone, gone+1)) {
			t.Fatalf("Keys() without %q = %q", sorted[gone], l)
		}
		wantState(t, "keys", p)
	}
}

// TestKeysWithEmptyValuesCount: an empty text and a quantity of 0 are values.
func TestKeysWithEmptyValuesCount(t *testing.T) {
	p := begin(1)
	p.apply(t, 0, set("text", ""), put("num", 0), put("gone", 0), drop("gone"), drop("never"))
	if l := p.f.Keys(); !slices.Equal(l, []string{"num", "text"}) {
		t.Errorf("Keys() = %q", l)
	}
	wantCell(t, p.f, "text", api.Cell{Kind: api.Set})
	wantCell(t, p.f, "num", api.Cell{Kind: api.Put})
}

func TestMembersIncrease(t *testing.T) {
	r := rand.New(rand.NewSource(113))
	for range 20 {
		p := begin(r.Intn(4))
		for _, n := range r.Perm(64)[:40] {
			p.apply(t, 0, join(n))
			wantNodes(t, "Join", p)
		}
		for _, n := range r.Perm(64)[:30] {
			p.apply(t, n, retire())
			wantNodes(t, "Retire", p)
		}
		if l := p.f.Members(); !slices.IsSorted(l) || len(l) == 0 {
			t.Errorf("Members() = %v", l)
		}
	}
}

// TestHave: as many events as each writer has, whatever their kinds, without zeros behind the last writer.
func TestHave(t *testing.T) {
	p := begin(1)
	for _, c := range []struct {
		writer int
		e      api.Event
		want   []uint64
	}{
		{2, set("k", "x"), []uint64{0, 0, 1}},
		{2, put("k", 1), []uint64{0, 0, 2}},
		{0, add("k", 1), []uint64{1, 0, 2}},
		{2, drop("k"), []uint64{1, 0, 3}},
		{2, drop("k"), []uint64{1, 0, 4}},
		{4, join(60), []uint64{1, 0, 4, 0, 1}},
		{4, retire(), []uint64{1, 0, 4, 0, 2}},
	} {
		p.apply(t, c.writer, c.e)
		if v := p.f.Have(); !slices.Equal(v, c.want) {
			t.Errorf("Have() = %v, want %v", v, c.want)
		}
	}
	p.apply(t, 63, retire())
	if v := p.f.Have(); len(v) != 64 || v[63] != 1 || v[62] != 0 {
		t.Errorf("Have() = %v", v)
	}
	wantState(t, "Have", p)
}

func TestLast(t *testing.T) {
	p := begin(3)
	for _, s := range []api.Spot{{Time: 1, Writer: 2}, {Time: 5}, {Time: 5, Writer: 1}, {Time: 5, Writer: 63}, {Time: api.End, Writer: 2}} {
		wantError(t, "Apply", p.f.Apply(at(drop("k"), s.Writer, p.have(s.Writer)+1, s.Time)), api.OK)
		p.l = append(p.l, at(drop("k"), s.Writer, p.have(s.Writer)+1, s.Time))
		if p.f.Last() != s {
			t.Errorf("Last() = %v, want %v", p.f.Last(), s)
		}
	}
}

// TestMark: the hash of the events' bytes, written out here, behind each event.
func TestMark(t *testing.T) {
	p := begin(2)
	if m := p.f.Mark(); m != 0xcbf29ce484222325 {
		t.Errorf("Mark() of no events = %x", m)
	}
	h := fnv.New64a()
	for _, c := range []struct {
		e    api.Event
		laid string
	}{
		{at(drop("a"), 0, 1, 1), "\x00\x01\x01\x04\x01a"},
		{at(set("k", "hi"), 1, 1, 1), "\x01\x01\x01\x01\x01k\x02hi"},
		{at(put("k", 0.5), 1, 2, 300), "\x01\x02\xac\x02\x02\x01k\x3f\xe0\x00\x00\x00\x00\x00\x00"},
		{at(add("k", otherNaNs[0]), 0, 2, 301), "\x00\x02\xad\x02\x03\x01k\x7f\xf8\x00\x00\x00\x00\x00\x01"},
		{at(join(63), 0, 3, 302), "\x00\x03\xae\x02\x05\x3f"},
		{at(retire(), 63, 1, 303), "\x3f\x01\xaf\x02\x06"},
	} {
		wantError(t, brief(c.e), p.f.Apply(c.e), api.OK)
		h.Write([]byte(c.laid))
		if m := p.f.Mark(); m != h.Sum64() {
			t.Errorf("Mark() behind %s = %x, want %x", brief(c.e), m, h.Sum64())
		}
	}
	one := begin(0)
	one.f.Apply(at(drop("a"), 0, 1, 1))
	if m := one.f.Mark(); m != 0x8dd32cd81620a641 {
		t.Errorf("Mark() of one event = %x", m)
	}
}

// TestMarkTellsEventsApart: it depends on all events and their order, and on nothing else.
func TestMarkTellsEventsApart(t *testing.T) {
	seen := map[uint64]string{}
	for _, l := range [][]api.Event{
		nil,
		{at(drop("a"), 0, 1, 1)},
		{at(drop("a"), 0, 1, 2)},
		{at(drop("a"), 1, 1, 1)},
		{at(drop("b"), 0, 1, 1)},
		{at(set("a", ""), 0, 1, 1)},
		{at(set("a", "x"), 0, 1, 1)},
		{at(put("a", 1), 0, 1, 1)},
		{at(add("a", 1), 0, 1, 1)},
		{at(add("a", negativeZero), 0, 1, 1)},
		{at(add("a", 0), 0, 1, 1)},
		{at(drop("a"), 0, 1, 1), at(drop("a"), 1, 1, 1)},
		{at(drop("a"), 1, 1, 1), at(drop("a"), 0, 1, 2)},
		{at(drop("a"), 0, 1, 1), at(drop("a"), 1, 1, 2)},
		{at(drop("a"), 0, 1, 1), at(drop("a"), 0, 2, 2)},
	} {
		p, q := begin(1), begin(64)
		for _, e := range l {
			p.try(t, e)
			q.try(t, e)
		}
		if p.f.Mark() != q.f.Mark() || p.f.Mark() != p.mark() {
			t.Errorf("%v: %x, %x", l, p.f.Mark(), q.f.Mark())
		}
		if other, ok := seen[p.f.Mark()]; ok {
			t.Errorf("%v has the mark of %s", l, other)
		}
		seen[p.f.Mark()] = fmt.Sprint(l)
	}
}

// TestCopy: both go their own ways.
func TestCopy(t *testing.T) {
	for _, p := range plays(t) {
		c := p.split()
		wantState(t, "the copy", c)
		c.apply(t, 1, set("k", "copy"), put("q", 7), drop("t"), join(40), add("i", 1))
		c.apply(t, 40, retire())
		wantState(t, "the original", p)
		wantState(t, "the copy", c)
		p.apply(t, 0, set("k", "original"), add("q", 1), drop("z"), join(41), retire())
		wantState(t, "the copy", c)
		wantState(t, "the original", p)
		d := c.split()
		d.apply(t, 2, drop("k"), drop("q"))
		wantState(t, "the copy", c)
		wantState(t, "the copy's copy", d)
	}
}

// TestMemory is the rule on memory: nothing is shared with arguments, and no results are.
func TestMemory(t *testing.T) {
	p := begin(2)
	text := []byte("behind")
	e := p.next(0, set("k", ""))
	e.Text = text[:2]
	wantError(t, "Apply", p.f.Apply(e), api.OK)
	p.l = append(p.l, at(set("k", "be"), e.Writer, e.Seq, e.Time))
	p.apply(t, 1, put("q", 1))
	if string(text) != "behind" {
		t.Errorf("the text became %q", text)
	}
	clear(text)
	wantState(t, "a text that is cleared", p)
	c := p.split()
	for range 2 {
		for _, f := range []*play{p, c} {
			cell, _ := f.f.Cell("k")
			other, _ := f.f.Cell("k")
			_ = append(cell.Text, "xxxx"...)
			clear(cell.Text)
			if string(other.Text) != "be" {
				t.Errorf("another text became %q", other.Text)
			}
			for _, l := range [][]byte{f.f.Encode(), other.Text} {
				_ = append(l, 1)
				clear(l)
			}
			keys, members, have := f.f.Keys(), f.f.Members(), f.f.Have()
			_, _, _ = append(keys, "x"), append(members, 7), append(have, 7)
			clear(keys)
			clear(members)
			clear(have)
		}
		wantState(t, "results that are cleared", p)
		wantState(t, "results that are cleared", c)
	}
}

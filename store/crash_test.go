package store_test

import (
	"fmt"
	"maps"
	"math/rand"
	"slices"
	"strings"
	"testing"

	"anabranch/api"
	"anabranch/disk"
	"anabranch/store"
)

// told returns everything that a store tells, but for Files.
func told(s *store.Store) string {
	p := fmt.Sprint(s.Node(), s.Clock(), s.Floor(), s.Time(), s.Have(), s.Members())
	for n := range 64 {
		if s.Joined(n) {
			p += fmt.Sprint(" ", n)
		}
	}
	return p + fmt.Sprintf("%q", s.Base().Encode()) + listed(s.Lists())
}

// tells returns the same for a model.
func (m *model) tells() string {
	all := m.all()
	var members []int
	joined := ""
	for n := range 64 {
		if all.joined(n) {
			joined += fmt.Sprint(" ", n)
			if !all.retired(n) {
				members = append(members, n)
			}
		}
	}
	p := fmt.Sprint(m.node, m.clock(), trimmed(m.base.have()), m.time, trimmed(all.have()), members)
	return p + joined + fmt.Sprintf("%q", m.base.encoded()) + listed(m.rest[:])
}

// listed returns the events of lists as a text.
func listed(lists [][]api.Event) string {
	p := ""
	for _, l := range lists {
		p += ";"
		for _, e := range l {
			p += encoded(e)
		}
	}
	return p
}

// call is something that is done with a store, and what the store may be if the disk stops at one of its operations: from
// what it was before to what the call makes.
type call struct {
	name  string
	begin func(t *testing.T) *pair
	do    func(p *pair) (int, api.Errno)
	after func(m *model) []*model
}

// calls are one or more of each function that changes a disk.
func calls(t *testing.T) []call {
	t.Helper()
	var l []call
	l = append(l, opens()...)
	for _, size := range []int{0, large} {
		l = append(l, writesOf(size)...)
		l = append(l, putsOf(size)...)
		l = append(l, foldsOf(t, size)...)
	}
	return l
}

func opens() []call {
	do := func(p *pair) (n int, e api.Errno) {
		p.s, e = store.Open(p.d, p.m.node, p.m.nodes, p.m.size)
		return 0, e
	}
	after := func(m *model) []*model { return []*model{m} }
	from := func(m *model, more map[string]string) func(t *testing.T) *pair {
		return func(t *testing.T) *pair {
			files := m.files()
			maps.Copy(files, more)
			return &pair{d: with(t, files), m: m.clone()}
		}
	}
	empty := func(t *testing.T) *pair {
		return &pair{d: disk.New(wide), m: &model{node: 2, nodes: 2, size: 60, serial: 1, base: history{nodes: 2}}}
	}
	return []call{
		{"Open of an empty disk", empty, do, after},
		{"Open again", from(folded(), nil), do, after},
		{"Open of what must be cleaned", from(folded(), map[string]string{"fold-13": "x", "fold-11": foldFile(3, 11, history{}.encoded()), "manifest.new": "y",
			nameOf(0, 1): file(0, 1, at(0, 1, 1, set("k", "hi"))), nameOf(1, 2): file(1, 2, at(1, 2, 4, join(7))), nameOf(2, 1): "torn",
			nameOf(0, 5): file(0, 5, at(0, 5, 9, drop("k")))}), do, after},
	}
}

func writesOf(size int) []call {
	var l []call
	for _, kind := range []byte{api.Set, api.Join, api.Retire} {
		for _, n := range []int{0, 1, 3} {
			begin := func(t *testing.T) *pair {
				p := begin(t, 1, 2, size)
				for range n {
					p.writes(t, set("k", "some text"))
				}
				return p
			}
			do := func(p *pair) (int, api.Errno) {
				_, e := p.s.Write(of(kind))
				return 0, e
			}
			after := func(m *model) []*model {
				c := m.clone()
				c.write(of(kind))
				return []*model{m, c}
			}
			l = append(l, call{fmt.Sprintf("Write of kind %d behind %d, size %d", kind, n, size), begin, do, after})
		}
	}
	return l
}

func putsOf(size int) []call {
	begin := func(t *testing.T) *pair {
		p := begin(t, 0, 4, size)
		p.puts(t, at(1, 1, 1, drop("k")), at(2, 1, 1, set("k", "some text")))
		return p
	}
	long := set("k", strings.Repeat("t", 99))
	var l []call
	for i, list := range [][]api.Event{
		{at(1, 2, 2, long)},
		{at(1, 2, 2, drop("k")), at(1, 3, 3, long), at(1, 4, 4, drop("k"))},
		{at(1, 2, 2, long), at(2, 2, 2, drop("k")), at(1, 3, 3, drop("k")), at(3, 1, 3, drop("k")), at(0, 1, 4, retire())},
		{at(1, 1, 1, drop("k")), at(1, 2, 2, long), at(1, 3, 3, long), at(2, 1, 3, drop("k")), at(2, 2, 4, drop("k")), at(2, 3, 5, drop("k")), at(3, 1, 6, drop("k"))},
		{at(1, 2, 2, join(7)), at(7, 1, 3, drop("k")), at(2, 2, 4, long), at(7, 2, 5, retire()), at(3, 1, 6, long), at(7, 3, 7, drop("k"))}, // with an error
	} {
		do := func(p *pair) (int, api.Errno) { return p.s.Put([]uint64{0, 1}, list) }
		after := func(m *model) []*model {
			l := []*model{m}
			for i := range list {
				c := m.clone()
				if n, _ := c.put(nil, list[:i+1]); n >= len(l) {
					l = append(l, c)
				}
			}
			return l
		}
		l = append(l, call{fmt.Sprintf("Put of list %d, size %d", i, size), begin, do, after})
	}
	return l
}

func foldsOf(t *testing.T, size int) []call {
	t.Helper()
	var l []call
	for _, from := range []uint64{0, 4} { // up to which the store was truncated before; 0: never
		begin := func(t *testing.T) *pair {
			p := written(t, size)
			if from > 0 {
				p.truncate(t, from)
			}
			return p
		}
		for _, time := range []uint64{from, 5, 9, 12} {
			do := func(p *pair) (int, api.Errno) { return 0, p.s.Truncate(time) }
			after := func(m *model) []*model {
				c := m.clone()
				c.truncate(time)
				return []*model{m, c}
			}
			l = append(l, call{fmt.Sprintf("Truncate(%d) behind %d, size %d", time, from, size), begin, do, after})
		}
		for _, more := range [][]api.Event{{at(0, 5, 6, drop("k"))}, {at(0, 5, 11, drop("k")), at(0, 6, 12, of(api.Put)), at(1, 2, 12, drop("z"))}} {
			h := history{nodes: 3, l: slices.Clone(more)}
			for _, e := range begin(t).m.all().l {
				if e.Time <= more[0].Time {
					h.l = append(h.l, e)
				}
			}
			h.sort()
			do := func(p *pair) (int, api.Errno) { return 0, p.s.Install([]byte(h.encoded()), h.last().Time) }
			after := func(m *model) []*model {
				c := m.clone()
				c.install(h, h.last().Time)
				return []*model{m, c}
			}
			l = append(l, call{fmt.Sprintf("Install of %d behind %d, size %d", len(more), from, size), begin, do, after})
		}
	}
	return l
}

// TestEachLastOperation is P14.5: whichever operation is the last one, and whatever a crash keeps.
func TestEachLastOperation(t *testing.T) {
	for _, c := range calls(t) {
		t.Run(c.name, func(t *testing.T) {
			t.Parallel()
			eachLastOperation(t, c)
		})
	}
}

func eachLastOperation(t *testing.T, c call) {
	p := c.begin(t)
	before := p.d.Acts()
	_, want := c.do(p)
	acts := p.d.Acts() - before
	states, seen := map[string]int{}, map[string]int{}
	for _, m := range c.after(c.begin(t).m) {
		states[m.tells()]++
	}
	for stop := range acts + 1 {
		for _, torn := range []int{0, 1, 30, 1 << 20} {
			for _, keep := range []int{-1, 0, 17, 25, 60, 1 << 20} {
				p := c.begin(t)
				p.d.Arm(stop, torn)
				n, e := c.do(p)
				allowed := c.after(p.m)
				if stop == acts {
					wantError(t, "the call", e, want)
					allowed = allowed[len(allowed)-1:]
				} else {
					wantError(t, "the call", e, api.ErrStop)
				}
				p.d.Crash(keep)
				p.recover(t, allowed)
				seen[p.m.tells()]++
				again(t, c, p, want)
				if t.Failed() {
					t.Fatalf("%d of %d operations, torn %d, keep %d; answer %d, %d", stop, acts, torn, keep, n, e)
				}
			}
		}
	}
	if len(seen) != len(states) {
		t.Errorf("%d of %d states were seen", len(seen), len(states))
	}
}

// recover opens the store after a crash, which must be one of these.
func (p *pair) recover(t *testing.T, allowed []*model) {
	t.Helper()
	s, e := store.Open(p.d, p.m.node, p.m.nodes, p.m.size)
	if e != api.OK {
		t.Fatalf("Open: %d", e)
	}
	p.s = s
	i := slices.IndexFunc(allowed, func(m *model) bool { return told(s) == m.tells() })
	if i < 0 {
		t.Fatalf("the store is none of %d: %s, want, for example, %s", len(allowed), told(s), allowed[len(allowed)-1].tells())
	}
	p.m = allowed[i]
	p.m.serial = wantTidy(t, p)
}

// wantTidy checks that there are no files that are no longer needed, and returns the serial of the fold.
func wantTidy(t *testing.T, p *pair) uint64 {
	t.Helper()
	folds, serial := 0, uint64(1)
	for _, name := range p.d.Names("") {
		folds += strings.Count(name, "fold-")
		if strings.HasSuffix(name, ".new") || name != "manifest" && !strings.HasPrefix(name, "fold-") && !strings.HasPrefix(name, "feed-") {
			t.Errorf("file %s", name)
		}
	}
	if folds == 1 {
		fmt.Sscanf(p.d.Names("fold-")[0], "fold-%d", &serial)
	}
	if folds > 1 || folds == 0 && len(p.m.base.l) > 0 {
		t.Errorf("%d folds", folds)
	}
	return serial
}

// again does the call again, and what it would have done is done.
func again(t *testing.T, c call, p *pair, want api.Errno) {
	t.Helper()
	if strings.HasPrefix(c.name, "Write of kind") {
		p.write(t, set("k", "again"))
	} else {
		end := c.after(c.begin(t).m)
		last := end[len(end)-1]
		if _, e := c.do(p); e != want && (e != api.ErrOld || p.m.tells() != last.tells()) {
			t.Errorf("again: %d, want %d", e, want)
		}
		p.m = last
	}
	p.recover(t, []*model{p.m})
}

// TestWithoutRoom: with each room that is too small, nothing has changed, or for Put the first events are there; with
// more room the call does what it would have done.
func TestWithoutRoom(t *testing.T) {
	for _, c := range calls(t) {
		if strings.HasPrefix(c.name, "Open") { // TestOpenWithoutRoom
			continue
		}
		t.Run(c.name, func(t *testing.T) {
			t.Parallel()
			more := 0
			for withRoom(t, c, more) == api.ErrFull {
				more++
			}
			if more == 0 {
				t.Error("there was always room")
			}
		})
	}
}

// withRoom does the call with room for so many bytes more.
func withRoom(t *testing.T, c call, more int) api.Errno {
	p := c.begin(t)
	_, want := c.do(p)
	p = c.begin(t)
	_, used := p.d.Room()
	p.d.Widen(used + more)
	files := contents(p.d)
	n, e := c.do(p)
	states := c.after(p.m)
	last := states[len(states)-1]
	if e == want {
		p.m = last
		wantFiles(t, c.name, p.d, p.m.files())
		p.recover(t, []*model{p.m})
		return api.OK
	}
	wantError(t, "without room", e, api.ErrFull)
	p.m = states[n]
	if n == 0 {
		wantFiles(t, c.name, p.d, files)
	}
	wantStore(t, c.name, p.s, p.m)
	wantFiles(t, c.name, p.d, p.m.files())
	wantNames(t, c.name, p.s, p.m)
	p.d.Widen(wide)
	rest := 0
	if strings.HasPrefix(c.name, "Put") {
		rest = len(states) - 1 - n
	}
	if n, e := c.do(p); e != want || n != rest {
		t.Errorf("with room: %d, %d, want %d, %d", n, e, rest, want)
	}
	p.m = last
	wantStore(t, c.name, p.s, p.m)
	wantFiles(t, c.name, p.d, p.m.files())
	p.d.Crash(-1)
	p.recover(t, []*model{p.m})
	if t.Failed() {
		t.Fatalf("room for %d, answer %d, %d", more, n, e)
	}
	return e
}

// TestNothingIsLost does anything to stores of three nodes, whose disks stop at any operation, and are full now and then.
func TestNothingIsLost(t *testing.T) {
	r := newRandom(145)
	answers := map[string]int{}
	for range 60 {
		size := sizes[r.Intn(len(sizes))]
		l := []*pair{begin(t, 0, 2, size), begin(t, 1, 2, size), begin(t, 5, 2, size)}
		for range 80 {
			p, from := l[r.Intn(3)], l[r.Intn(3)]
			if r.Intn(4) == 0 {
				p.d.Arm(r.Intn(12), r.Intn(80))
			}
			_, used := p.d.Room()
			p.d.Widen(used + r.Intn(3)*r.Intn(900))
			what, e, states := p.random(r, from)
			answers[fmt.Sprintf("%s %d", what, e)]++
			if p.d.On() {
				p.m = states[len(states)-1]
				if r.Intn(3) == 0 {
					p.d.Arm(-1, 0)
					p.d.Crash(r.Intn(80) - 1)
					p.recover(t, []*model{p.m})
				}
			} else {
				p.d.Crash(r.Intn(80) - 1)
				p.recover(t, states)
			}
			if told(p.s) != p.m.tells() {
				t.Fatalf("%s, answer %d: %s, want %s", what, e, told(p.s), p.m.tells())
			}
		}
	}
	for _, what := range []string{"Write 0", "Write 3", "Write 7", "Put 0", "Put 3", "Put 7", "Truncate 0", "Truncate 3", "Truncate 7", "Install 0", "Install 3", "Install 7"} {
		if answers[what] < 5 {
			t.Errorf("%s: %d times; all: %v", what, answers[what], answers)
		}
	}
}

// random does something at random, with what another store has, and returns what it was, the answer, and what the store may
// be if its disk has stopped; the last of these, if it has not.
func (p *pair) random(r *rand.Rand, from *pair) (string, api.Errno, []*model) {
	before, after := p.m, p.m.clone()
	switch r.Intn(5) {
	case 0, 1:
		x := randomEvent(r)
		_, want := after.write(x)
		_, e := p.s.Write(x)
		return "Write", e, states(before, after, e, want)
	case 2:
		l := history{l: slices.Concat(from.m.rest[:]...)}
		l.sort()
		all := []*model{before}
		for i := range l.l {
			c := before.clone()
			if n, _ := c.put(trimmed(from.m.base.have()), l.l[:i+1]); n == len(all) {
				all = append(all, c)
			}
		}
		n, e := p.s.Put(trimmed(from.m.base.have()), l.l)
		if e != api.ErrStop {
			all = all[:n+1]
		}
		return "Put", e, all
	case 3:
		time := p.m.time + uint64(r.Intn(int(min(p.m.clock()-p.m.time, 9))+2))
		want := after.truncate(time)
		e := p.s.Truncate(time)
		return "Truncate", e, states(before, after, e, want)
	}
	want := after.install(from.m.base, from.m.time)
	e := p.s.Install([]byte(from.m.base.encoded()), from.m.time)
	return "Install", e, states(before, after, e, want)
}

// states returns what a store may be after a call with an answer, given the answer of the model.
func states(before, after *model, e, want api.Errno) []*model {
	if e == want || e == api.ErrStop {
		return []*model{before, after}
	}
	return []*model{before}
}

// randomEvent returns an event without a place, seldom a Retire.
func randomEvent(r *rand.Rand) api.Event {
	e := api.Event{Kind: byte(1 + r.Intn(5)), Key: keyOf(r.Intn(9)), Text: []byte(strings.Repeat("t", r.Intn(60))), Num: r.NormFloat64(), Node: r.Intn(7)}
	if r.Intn(50) == 0 {
		e.Kind = api.Retire
	}
	return e
}

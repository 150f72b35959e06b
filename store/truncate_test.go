package store_test

import (
	"encoding/binary"
	"fmt"
	"math"
	"slices"
	"strings"
	"testing"

	"anabranch/api"
	"anabranch/disk"
	"anabranch/store"
)

// encodedAt returns an encoding of a fold without keys, of which no events are told.
func encodedAt(have []uint64, last api.Spot, joined, retired uint64) string {
	p := binary.AppendUvarint(nil, uint64(len(have)))
	for _, n := range have {
		p = binary.AppendUvarint(p, n)
	}
	p = binary.AppendUvarint(binary.AppendUvarint(p, last.Time), uint64(last.Writer))
	for _, n := range []uint64{joined, retired, 77} {
		p = binary.BigEndian.AppendUint64(p, n)
	}
	return string(append(p, 0))
}

// written returns a store of node 0, of which the Clock is 12, with events at 1, 2, 3, 5, 5, 5, 8, 9, 12.
func written(t *testing.T, size int) *pair {
	t.Helper()
	p := begin(t, 0, 3, size)
	p.writes(t, set("k", "hi"), add("n", 2), drop("k"))
	p.puts(t, at(0, 4, 5, of(api.Set)), at(1, 1, 5, join(40)), at(2, 1, 5, add("n", 4)), at(2, 2, 8, retire()), at(40, 1, 9, set("z", "text")), at(1, 2, 12, drop("z")))
	return p
}

// TestTruncate: to each time, once and again, and with segments of any size.
func TestTruncate(t *testing.T) {
	for _, size := range sizes {
		for a := range uint64(15) {
			for b := range uint64(15) {
				p := written(t, size)
				e := p.truncate(t, a)
				if (e == api.OK) != (a <= 12) {
					t.Errorf("Truncate(%d): %d", a, e)
				}
				p.check(t, fmt.Sprintf("truncated to %d", a))
				p.writes(t, drop("k"))
				p.truncate(t, b)
				p.check(t, fmt.Sprintf("truncated to %d and %d", a, b))
				p.puts(t, at(1, 3, 99, drop("k")), at(40, 2, 99, drop("k")))
				p.check(t, fmt.Sprintf("truncated to %d and %d, and more events", a, b))
			}
		}
	}
}

// TestTruncateArg: ErrArg above Clock and below Time, also where nothing would be folded, and nothing is written.
func TestTruncateArg(t *testing.T) {
	p := written(t, 60)
	p.truncate(t, 7)
	acts := p.d.Acts()
	for _, time := range []uint64{0, 1, 5, 6, 13, 14, api.End, api.End + 1, math.MaxUint64} {
		wantError(t, "Truncate", p.truncate(t, time), api.ErrArg)
	}
	if p.d.Acts() != acts {
		t.Errorf("%d operations", p.d.Acts()-acts)
	}
	p.check(t, "ErrArg")
	e := begin(t, 0, 1, 60)
	wantError(t, "Truncate", e.truncate(t, 1), api.ErrArg)
	e.check(t, "ErrArg without events")
}

// TestTruncateOfNothing: the time alone changes, and there is a fold without events.
func TestTruncateOfNothing(t *testing.T) {
	p := begin(t, 3, 4, 60)
	wantError(t, "Truncate", p.truncate(t, 0), api.OK)
	p.check(t, "nothing")
	wantError(t, "Truncate", p.truncate(t, 0), api.OK)
	p.check(t, "nothing again")
	p.puts(t, at(1, 1, 9, drop("k")))
	wantError(t, "Truncate", p.truncate(t, 8), api.OK)
	p.check(t, "a time before all events")
	wantError(t, "Truncate", p.truncate(t, 8), api.OK)
	p.check(t, "the same time")
	if n, e := p.put(t, nil, at(2, 1, 8, drop("k"))); n != 0 || e != api.ErrOld {
		t.Errorf("Put = %d, %d", n, e)
	}
	p.check(t, "an event that comes too late")
}

// TestTruncateOfManyEvents: all writers, and all kinds.
func TestTruncateOfManyEvents(t *testing.T) {
	r := newRandom(141)
	p := begin(t, 0, 64, 200)
	time := uint64(0)
	for i := range 1000 {
		time += uint64(r.Intn(2))
		w := r.Intn(64)
		if l := p.m.rest[w]; len(l) > 0 && l[len(l)-1].Time >= time {
			time++
		}
		e := of(byte(1 + r.Intn(5)))
		e.Key = fmt.Sprint(r.Intn(30))
		if _, err := p.put(t, nil, at(w, p.m.all().have()[w]+1, max(time, 1), e)); err == api.ErrOld {
			time++
		}
		if i%199 == 0 {
			p.truncate(t, p.m.time+(p.m.clock()-p.m.time)*3/4)
			p.check(t, fmt.Sprint("event ", i))
		}
	}
	p.truncate(t, p.m.clock())
	p.check(t, "all")
}

// TestTruncateWhatIsWrong: events that cannot be applied, as no store writes them, are an error that changes nothing.
func TestTruncateWhatIsWrong(t *testing.T) {
	files := map[string]string{nameOf(0, 1): file(0, 1, at(0, 1, 9, drop("k")), at(0, 2, 5, drop("k"))), nameOf(1, 1): file(1, 1, at(1, 1, 9, drop("k")))}
	d := with(t, files)
	s, _ := store.Open(d, 0, 2, 60)
	files = contents(d)
	wantError(t, "Truncate", s.Truncate(9), api.ErrOld)
	wantFiles(t, "Truncate", d, files)
	if s.Time() != 0 || len(s.Floor()) > 0 || len(s.Lists()[0]) != 2 || len(s.Base().Have()) > 0 {
		t.Error("Truncate with an error has changed the store")
	}
}

// others returns the events of TestInstall's stores, of which each has some, in the order of all events.
func others() []api.Event {
	l := []api.Event{at(0, 1, 1, set("k", "hi")), at(1, 1, 1, join(5)), at(0, 2, 3, add("n", 1)), at(5, 1, 4, add("n", 2)), at(1, 2, 6, retire()),
		at(0, 3, 6, drop("k")), at(5, 2, 8, set("z", "text")), at(5, 3, 9, join(6)), at(6, 1, 10, retire())}
	history{l: l}.sort()
	return l
}

// TestInstall: folds of all first events, in stores that have others of them, folded or not, with all times.
func TestInstall(t *testing.T) {
	l := others()
	answers := map[api.Errno]int{}
	for _, size := range []int{0, large} {
		for mask := range 1 << len(l) {
			for _, fold := range []uint64{0, 4} {
				base := part(t, l, mask, fold, size)
				if base == nil {
					continue
				}
				for n := range len(l) + 1 {
					for _, time := range []uint64{0, 3, 4, 5, 6, 8, 9, 10, 11} {
						p := &pair{d: with(t, base.files()), m: base.clone()}
						p.open(t)
						answers[p.install(t, history{nodes: 2, l: slices.Clone(l[:n])}, time)]++
						if (mask+n+int(time))%7 == 0 {
							p.check(t, fmt.Sprintf("%b with %d at %d", mask, n, time))
						} else {
							wantStore(t, "installed", p.s, p.m)
							wantFiles(t, "installed", p.d, p.m.files())
						}
						if t.Failed() {
							t.Fatalf("%b, folded to %d, with %d at %d", mask, fold, n, time)
						}
					}
				}
			}
		}
	}
	if answers[api.OK] < 100 || answers[api.ErrOld] < 100 || answers[api.ErrArg] < 100 || len(answers) != 3 {
		t.Errorf("answers: %v", answers)
	}
}

// part returns the model of a store with the events of a mask, folded up to a time, and nil if there can be no such store.
func part(t *testing.T, l []api.Event, mask int, fold uint64, size int) *model {
	t.Helper()
	m := &model{node: 0, nodes: 2, size: size, serial: 1, base: history{nodes: 2}}
	for i, e := range l {
		if mask>>i&1 == 1 {
			if n, err := m.put(nil, []api.Event{e}); n != 1 || err != api.OK {
				return nil
			}
		}
	}
	if fold > 0 && m.truncate(fold) != api.OK {
		return nil
	}
	m.open()
	return m
}

// TestInstallOfNoFold: ErrForm, whatever the time is, and nothing has changed.
func TestInstallOfNoFold(t *testing.T) {
	p := written(t, 60)
	p.truncate(t, 5)
	right := history{nodes: 3, l: []api.Event{at(0, 1, 1, set("k", "hi"))}}.encoded()
	bad := []string{"", "x", right + "x", right + right, foldFile(0, 2, right), strings.Repeat("\x00", 99), strings.Repeat("\xff", 99), "\x41" + right[1:]}
	for i := range right {
		bad = append(bad, right[:i])
	}
	for _, s := range bad {
		for _, time := range []uint64{0, 4, 5, 20, api.End, math.MaxUint64} {
			wantError(t, fmt.Sprintf("Install(%q)", s), p.s.Install([]byte(s), time), api.ErrForm)
		}
	}
	p.check(t, "no fold")
}

// TestInstallOfNothingNew: ErrOld, also if the time, or what else is in the fold, is wrong, too.
func TestInstallOfNothingNew(t *testing.T) {
	p := written(t, 60)
	p.truncate(t, 5)
	for _, have := range [][]uint64{nil, {1}, {4, 2, 2}, {0, 1}, p.s.Have()} {
		for _, last := range []uint64{0, 3, 99} {
			for _, time := range []uint64{0, 5, 50, math.MaxUint64} {
				wantError(t, fmt.Sprint("Install ", have, time), p.s.Install([]byte(encodedAt(have, api.Spot{Time: last}, 3, 0)), time), api.ErrOld)
			}
		}
	}
	p.check(t, "nothing new")
}

// TestInstallArg: ErrArg for each of its reasons alone, and OK at the limits.
func TestInstallArg(t *testing.T) {
	for _, c := range []struct {
		have       []uint64
		last, time uint64
		want       api.Errno
	}{
		{[]uint64{5, 1, 2}, 8, 8, api.OK},                         // Floor is 4, 1, 2 at 8
		{[]uint64{5, 1, 2}, 9, 8, api.ErrArg},                     // Last is after 8
		{[]uint64{5, 1, 2}, 8, 7, api.ErrArg},                     // so it is after 7, and that is before Time
		{[]uint64{5, 1, 2}, 7, 7, api.ErrArg},                     // before Time
		{[]uint64{5, 1, 2}, 0, 8, api.OK},                         // Last may be before Time
		{[]uint64{5, 1, 1}, 8, 8, api.ErrArg},                     // Floor is not within it
		{[]uint64{3, 9, 9}, 8, 8, api.ErrArg},                     // nor here
		{[]uint64{5, 1, 2}, 8, 9, api.ErrArg},                     // an event of writer 40 is not after 9
		{append([]uint64{5, 1, 2}, one(40, 1)...), 8, 9, api.OK},  // it has that one
		{append([]uint64{5, 1, 2}, one(40, 1)...), 9, 11, api.OK}, // and the other one is after 11
		{append([]uint64{5, 1, 2}, one(40, 1)...), 9, 12, api.ErrArg},
		{append([]uint64{5, 2, 2}, one(40, 1)...), 9, 12, api.OK},
		{append([]uint64{5, 2, 2}, one(40, 1)...), 9, api.End, api.OK},
		{append([]uint64{5, 2, 2}, one(40, 1)...), api.End, api.End, api.OK},
		{append([]uint64{5, 2, 2}, one(40, 1)...), 9, api.End + 1, api.ErrExhausted}, // no manifest can have that time
		{append([]uint64{5, 2, 2}, one(40, 1)...), 9, math.MaxUint64, api.ErrExhausted},
	} {
		p := written(t, 60)
		p.truncate(t, 8)
		what := fmt.Sprintf("Install(%v to %d, %d)", c.have, c.last, c.time)
		e := p.s.Install([]byte(encodedAt(c.have, api.Spot{Time: c.last}, 3, 0)), c.time)
		wantError(t, what, e, c.want)
		if e != api.OK {
			p.check(t, what)
			continue
		}
		if got := p.s.Base(); p.s.Time() != c.time || !slices.Equal(p.s.Floor(), c.have) || got.Last().Time != c.last || got.Mark() != 77 {
			t.Errorf("%s: Time %d, Floor %v, Last %v, Mark %d", what, p.s.Time(), p.s.Floor(), got.Last(), got.Mark())
		}
	}
}

// one returns the numbers of the writers 3 to w, of which only that of w is not 0.
func one(w int, n uint64) []uint64 {
	v := make([]uint64, w-2)
	v[w-3] = n
	return v
}

// TestInstallMembers: who has joined and retired follows from the new fold and the events that stay, and from nothing else.
func TestInstallMembers(t *testing.T) {
	p := begin(t, 0, 2, 60)
	p.puts(t, at(0, 1, 1, join(7)), at(0, 2, 2, join(8)), at(7, 1, 3, retire()), at(0, 3, 9, join(9)), at(8, 1, 9, retire()))
	wantError(t, "Install", p.s.Install([]byte(encodedAt([]uint64{2, 1, 0, 0, 0, 0, 0, 1}, api.Spot{Time: 3}, 1<<1|1<<7, 1<<1)), 3), api.OK)
	check := func() {
		t.Helper()
		for n := range 64 {
			joined, member := n == 1 || n == 7 || n == 9, n == 7 || n == 9
			if p.s.Joined(n) != joined || p.s.Member(n) != member {
				t.Errorf("node %d: joined %v, member %v", n, p.s.Joined(n), p.s.Member(n))
			}
		}
		if got := p.s.Members(); !slices.Equal(got, []int{7, 9}) {
			t.Errorf("Members() = %v", got)
		}
		_, e := p.s.Write(drop("k"))
		wantError(t, "Write of a node that has not joined", e, api.ErrMember)
	}
	check()
	p.open(t)
	check()
}

// TestLastSerial: a manifest with the last serial cannot be replaced: ErrExhausted, and nothing has changed.
func TestLastSerial(t *testing.T) {
	m := folded()
	m.serial = api.End
	p := &pair{d: with(t, m.files()), m: m}
	p.open(t)
	wantError(t, "Truncate", p.s.Truncate(8), api.ErrExhausted)
	wantError(t, "Install", p.s.Install([]byte(encodedAt([]uint64{2, 9}, api.Spot{Time: 8}, 3, 0)), 8), api.ErrExhausted)
	p.check(t, "the last serial")
	m.serial = api.End - 1
	p = &pair{d: with(t, m.files()), m: m}
	p.open(t)
	p.truncate(t, 8)
	p.check(t, "the last but one")
}

// TestLateNode: a store without events takes a fold, and goes on from there.
func TestLateNode(t *testing.T) {
	a := written(t, 60)
	a.truncate(t, 9)
	late := begin(t, 40, 3, 60)
	if n, e := late.put(t, nil, a.s.Feed(1).All()...); n != 0 || e != api.ErrGap {
		t.Errorf("Put = %d, %d", n, e)
	}
	late.check(t, "before")
	if e := late.install(t, a.m.base, a.m.time); e != api.OK {
		t.Errorf("Install: %d", e)
	}
	late.check(t, "installed")
	wantError(t, "Install again", late.install(t, a.m.base, a.m.time), api.ErrOld)
	wantError(t, "Install of a fold of no events", late.install(t, history{nodes: 3}, 99), api.ErrOld)
	if n, e := late.put(t, a.s.Floor(), a.s.Feed(1).All()...); n != 1 || e != api.OK {
		t.Errorf("Put = %d, %d", n, e)
	}
	late.writes(t, set("k", "hi"))
	late.check(t, "going on")
	if got := late.s.Base().Mark(); got != a.s.Base().Mark() {
		t.Errorf("Mark %d, want %d", got, a.s.Base().Mark())
	}
}

// TestManyDisks: what a store is does not depend on another one's disk.
func TestManyDisks(t *testing.T) {
	a, b := written(t, 60), begin(t, 1, 2, 60)
	b.writes(t, drop("k"))
	a.truncate(t, 8)
	stop(b.d)
	a.check(t, "the other one's disk has stopped")
	if _, e := store.Open(disk.New(wide), 1, 2, 60); e != api.OK {
		t.Errorf("Open: %d", e)
	}
}

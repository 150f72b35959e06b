package feed_test

import (
	"math"
	"slices"
	"strings"
	"testing"

	"anabranch/api"
	"anabranch/disk"
	"anabranch/feed"
)

// The tests of P9.3 that are about Add and Sync.

// split returns the names and bytes of the segments in which events are that are added to an empty feed of writer 3.
func split(size int, l ...api.Event) []string {
	var files []string
	for len(l) > 0 {
		n := 1
		for n < len(l) && len(file(3, l[0].Seq, l[:n]...)) < size {
			n++
		}
		files = append(files, nameOf(3, l[0].Seq), file(3, l[0].Seq, l[:n]...))
		l = l[n:]
	}
	return files
}

// TestAdd: a segment ends with the event with which it has size bytes or more.
func TestAdd(t *testing.T) {
	l := append(run(1, 14), full(api.Retire, 15))
	sizes := []int{math.MinInt, -1, 0, 1, 60, 100, 200, 500, 3000, large}
	for n := range 8 {
		sizes = append(sizes, sizeOf(1, n)-1, sizeOf(1, n), sizeOf(1, n)+1)
	}
	for _, size := range sizes {
		d := disk.New(wide)
		f := opened(t, d, size, 0, 9)
		wantFiles(t, d)
		for i, e := range l {
			wantError(t, "Add", f.Add(e), api.OK)
			files := split(size, l[:i+1]...)
			wantFeed(t, f, 0, 9, len(files)/2, l[:i+1]...)
			wantFiles(t, d, files...)
			wantSafe(t, f, d, files, i)
		}
		wantError(t, "Add to a sealed feed", f.Add(full(api.Set, 16)), api.ErrRetired)
		wantFeed(t, opened(t, d, size, 0, 9), 0, 9, f.Segments(), l...)
	}
	if slices.Equal(split(sizeOf(1, 3), l...), split(sizeOf(1, 3)+1, l...)) {
		t.Error("a byte more makes no difference")
	}
}

// wantSafe checks which bytes are durable: of the segments before the last one, all; of that, nothing but the title, and what
// it had at the last Sync, which is done after each fourth event.
func wantSafe(t *testing.T, f *feed.Feed, d *disk.Disk, files []string, i int) {
	t.Helper()
	last := len(files) - 2
	for j := 0; j < last; j += 2 {
		if d.Safe(files[j]) != len(files[j+1]) {
			t.Errorf("of %s, %d bytes are durable", files[j], d.Safe(files[j]))
		}
	}
	if d.Safe(files[last]) == len(files[last+1]) {
		t.Errorf("all of %s is durable", files[last])
	}
	wantError(t, "Fold of what is not durable", f.Fold(0, 0), api.ErrArg)
	if i%4 == 3 {
		wantError(t, "Sync", f.Sync(), api.OK)
		if d.Safe(files[last]) != len(files[last+1]) {
			t.Errorf("of %s, %d bytes are durable", files[last], d.Safe(files[last]))
		}
		wantError(t, "Fold of what is durable", f.Fold(0, 0), api.OK)
	}
}

// TestAddBehindAFloor: a segment begins if there is none, or the last one ends before the next event.
func TestAddBehindAFloor(t *testing.T) {
	for _, c := range []struct {
		openCase
		fresh bool
		again int // segments that are found afterwards: one without events that is not the last one any more is not
	}{
		{openCase{0, nil, nil}, true, 1},
		{openCase{4, nil, nil}, true, 1},
		{openCase{4, []int{5, 0}, []int{5, 0}}, false, 1},
		{openCase{4, []int{4, 0}, []int{4, 0}}, true, 1},
		{openCase{4, []int{1, 0}, []int{1, 0}}, true, 1},
		{openCase{4, []int{5, 2}, []int{5, 2}}, false, 1},
		{openCase{4, []int{3, 2}, nil}, true, 1},
		{openCase{4, []int{5, 2, 7, 0}, []int{5, 2, 7, 0}}, false, 2},
		{openCase{6, []int{5, 2, 7, 0}, []int{7, 0}}, false, 1},
		{openCase{8, []int{5, 2, 7, 0}, []int{7, 0}}, true, 1},
		{openCase{api.End - 1, []int{5, 2}, nil}, true, 1},
	} {
		d := with(t, parts(c.files...)...)
		f := opened(t, d, 1000, c.floor, 4)
		l, files := f.All(), parts(c.left...)
		e := api.Event{Writer: 3, Seq: f.Next(), Time: 1000, Kind: api.Drop, Key: "k"}
		if c.fresh {
			files = append(files, nameOf(3, e.Seq), title(3, e.Seq))
		}
		files[len(files)-1] += record(e)
		wantError(t, "Add", f.Add(e), api.OK)
		wantFeed(t, f, c.floor, 0, len(files)/2, append(l, e)...)
		wantFiles(t, d, files...)
		wantError(t, "Sync", f.Sync(), api.OK)
		d.Crash(0)
		wantFeed(t, opened(t, d, 1000, c.floor, 4), c.floor, 0, c.again, append(l, e)...)
	}
}

// wantRefused checks that Add returns an error and has changed nothing, and that nothing was asked of the disk for an event that
// is not the next one.
func wantRefused(t *testing.T, f *feed.Feed, d *disk.Disk, e api.Event, want api.Errno) {
	t.Helper()
	acts, l, names, segments, floor := d.Acts(), f.All(), d.Names(""), f.Segments(), f.Floor()
	var time uint64
	if len(l) == 0 {
		time = f.Time()
	}
	wantError(t, "Add", f.Add(e), want)
	wantFeed(t, f, floor, time, segments, l...)
	other := want == api.ErrGap || want == api.ErrOld || want == api.ErrRetired
	if !slices.Equal(d.Names(""), names) || other && d.Acts() != acts {
		t.Errorf("Add of %v: files %q, %d operations", e, d.Names(""), d.Acts()-acts)
	}
}

// change returns an event of which something is different.
func change(e api.Event, how func(e *api.Event)) api.Event {
	how(&e)
	return e
}

// TestAddOfAnotherEvent: it is not the next one, or comes too early.
func TestAddOfAnotherEvent(t *testing.T) {
	for _, size := range []int{0, sizeOf(1, 2), large} {
		for n := range 4 {
			for floor := range uint64(n + 1) {
				f, d := begun(t, size, run(1, n)...)
				wantError(t, "Fold", f.Fold(floor, 25), api.OK)
				time := f.Time()
				next := change(full(api.Set, uint64(n+1)), func(e *api.Event) { e.Time = time + 1 })
				for _, writer := range []int{-1, 0, 2, 4, 30, 63, 64} {
					wantRefused(t, f, d, change(next, func(e *api.Event) { e.Writer = writer }), api.ErrGap)
				}
				for _, seq := range []uint64{0, next.Seq - 1, floor, next.Seq + 1, next.Seq + 256, api.End, math.MaxUint64} {
					wantRefused(t, f, d, change(next, func(e *api.Event) { e.Seq = seq }), api.ErrGap)
				}
				for _, at := range []uint64{0, 1, time / 2, time - 1, time} {
					if at <= time {
						wantRefused(t, f, d, change(next, func(e *api.Event) { e.Time = at }), api.ErrOld)
						wantRefused(t, f, d, change(next, func(e *api.Event) { e.Time, e.Seq = at, next.Seq+1 }), api.ErrGap)
					}
				}
				l := append(f.All(), next)
				wantError(t, "Add", f.Add(next), api.OK)
				wantEvents(t, "All", f.All(), l)
			}
		}
	}
}

// TestAddToASealedFeed: nothing is added, until the Retire is folded.
func TestAddToASealedFeed(t *testing.T) {
	for _, size := range []int{0, large} {
		f, d := begun(t, size, full(api.Set, 1), full(api.Retire, 2))
		for kind := api.Set; kind <= api.Retire; kind++ {
			wantRefused(t, f, d, full(kind, 3), api.ErrRetired)
		}
		wantError(t, "Fold", f.Fold(1, 20), api.OK)
		wantRefused(t, f, d, full(api.Set, 3), api.ErrRetired)
		g := opened(t, d, size, 1, 20)
		wantRefused(t, g, d, full(api.Set, 3), api.ErrRetired)
		wantError(t, "Fold", f.Fold(2, 20), api.OK)
		wantError(t, "Add", f.Add(full(api.Set, 3)), api.OK)
		wantFeed(t, f, 2, 0, f.Segments(), full(api.Set, 3))
	}
}

// TestAddOfNoEvent: an event that is the next one, but is none, is refused, and leaves no segment behind.
func TestAddOfNoEvent(t *testing.T) {
	for want, changes := range map[api.Errno][]func(e *api.Event){
		api.ErrArg: {
			func(e *api.Event) { e.Kind = 0 },
			func(e *api.Event) { e.Kind = 7 },
			func(e *api.Event) { e.Kind, e.Node = api.Join, 64 },
			func(e *api.Event) { e.Kind, e.Node = api.Join, -1 },
		},
		api.ErrLong: {
			func(e *api.Event) { e.Key = "" },
			func(e *api.Event) { e.Key = strings.Repeat("k", api.MaxKey+1) },
			func(e *api.Event) { e.Text = []byte(strings.Repeat("t", api.MaxText+1)) },
		},
		api.ErrExhausted: {
			func(e *api.Event) { e.Time = api.End + 1 },
			func(e *api.Event) { e.Time = math.MaxUint64 },
		},
	} {
		for _, how := range changes {
			for n := range 3 {
				for _, size := range []int{0, large} {
					f, d := begun(t, size, run(1, n)...)
					files := split(size, run(1, n)...)
					wantRefused(t, f, d, change(full(api.Set, uint64(n+1)), how), want)
					wantFiles(t, d, files...)
					wantError(t, "Add", f.Add(full(api.Drop, uint64(n+1))), api.OK)
					wantFiles(t, d, split(size, append(run(1, n), full(api.Drop, uint64(n+1)))...)...)
				}
			}
		}
	}
}

// TestAddUpToTheEnd: the last number, and the last time, is End.
func TestAddUpToTheEnd(t *testing.T) {
	for _, size := range []int{0, large} {
		d := disk.New(wide)
		f := opened(t, d, size, api.End-2, 0)
		l := []api.Event{full(api.Drop, api.End-1), full(api.Drop, api.End)}
		l[0].Time, l[1].Time = 1, api.End-1
		for i, e := range l {
			wantError(t, "Add", f.Add(e), api.OK)
			wantFeed(t, f, api.End-2, 0, f.Segments(), l[:i+1]...)
		}
		e := full(api.Drop, api.End+1)
		e.Time = api.End
		wantRefused(t, f, d, e, api.ErrExhausted)
		g := opened(t, d, size, api.End, 0)
		wantRefused(t, g, d, e, api.ErrExhausted)
	}
}

// TestAddOfTheLongest: a segment may be much longer than its size.
func TestAddOfTheLongest(t *testing.T) {
	l := run(1, 2)
	l[0].Key, l[0].Text = strings.Repeat("k", api.MaxKey), []byte(strings.Repeat("t", api.MaxText))
	f, d := begun(t, 100, l...)
	wantFeed(t, f, 0, 0, 2, l...)
	wantFeed(t, opened(t, d, 100, 0, 0), 0, 0, 2, l...)
}

// TestAddWithoutRoom: whether there is no room for the segment or for the event, nothing has changed.
func TestAddWithoutRoom(t *testing.T) {
	for _, size := range []int{0, sizeOf(1, 2), large} {
		for n := range 5 {
			l := run(1, n+1)
			f, d := begun(t, size, l[:n]...)
			_, used := d.Room()
			files, after := split(size, l[:n]...), split(size, l...)
			need := len(strings.Join(after, ""))
			for i := 0; i < len(after); i += 2 {
				need -= len(after[i])
			}
			for room := used; room < need; room++ {
				d.Widen(room)
				wantRefused(t, f, d, l[n], api.ErrFull)
				wantFiles(t, d, files...)
				wantError(t, "Sync", f.Sync(), api.OK)
				wantError(t, "Fold", f.Fold(0, 0), api.OK)
			}
			d.Widen(need)
			wantError(t, "Add", f.Add(l[n]), api.OK)
			wantFeed(t, f, 0, 0, len(after)/2, l...)
			wantFiles(t, d, after...)
		}
	}
}

// TestAddKeepsNoArgument: the text of an event is copied, and left as it is.
func TestAddKeepsNoArgument(t *testing.T) {
	text := []byte("hi, and more")
	e := full(api.Set, 1)
	e.Text = text[:2]
	f, d := begun(t, 60, e)
	_ = append(f.All()[0].Text, "+++"...)
	if string(text) != "hi, and more" {
		t.Errorf("the text became %q", text)
	}
	clear(text)
	wantFeed(t, f, 0, 0, 1, full(api.Set, 1))
	wantFiles(t, d, nameOf(3, 1), file(3, 1, full(api.Set, 1)))
}

// TestAddDropsUnusedFields: they are neither examined nor kept.
func TestAddDropsUnusedFields(t *testing.T) {
	var l []api.Event
	for kind := api.Set; kind <= api.Retire; kind++ {
		e := full(kind, uint64(kind))
		if kind != api.Set {
			e.Text = []byte(strings.Repeat("t", api.MaxText+1))
		}
		if kind >= api.Join {
			e.Key = ""
		}
		if kind != api.Join {
			e.Node = -1
		}
		l = append(l, e)
	}
	f, _ := begun(t, 60, l...)
	for i, e := range f.All() {
		want := plain(l[i])
		if e.Key != want.Key || string(e.Text) != string(want.Text) || e.Num != want.Num || e.Node != want.Node {
			t.Errorf("%v became %v", l[i], e)
		}
	}
}

// TestSync: after it everything is durable, also what was not when the feed was opened.
func TestSync(t *testing.T) {
	for _, size := range []int{0, 60, large} {
		d := disk.New(wide)
		files := parts(1, 2, 3, 2, 5, 1)
		for i := 0; i < len(files); i += 2 {
			d.Append(files[i], []byte(files[i+1]))
		}
		d.Sync(files[2])
		f := opened(t, d, size, 0, 0)
		l := f.All()
		wantEvents(t, "All", l, slices.Concat(run(1, 2), run(3, 2), run(5, 1)))
		for floor := range uint64(5) {
			wantError(t, "Fold of what is not durable", f.Fold(floor, 0), api.ErrArg)
		}
		wantError(t, "Sync", f.Sync(), api.OK)
		d.Crash(0)
		wantFiles(t, d, files...)
		wantError(t, "Fold of what is durable", f.Fold(0, 0), api.OK)
		wantError(t, "Add", f.Add(full(api.Drop, 6)), api.OK)
		wantError(t, "Fold of what is not durable", f.Fold(0, 0), api.ErrArg)
		wantError(t, "Sync", f.Sync(), api.OK)
		wantError(t, "Sync again", f.Sync(), api.OK)
		d.Crash(0)
		wantFeed(t, opened(t, d, size, 0, 0), 0, 0, f.Segments(), append(l, full(api.Drop, 6))...)
	}
}

// TestWithoutSync: what was not made durable may be lost, but for what is in a segment that another one follows.
func TestWithoutSync(t *testing.T) {
	l := run(1, 6)
	for _, size := range []int{0, sizeOf(1, 2), large} {
		for n := range l {
			d := disk.New(wide)
			f := opened(t, d, size, 0, 0)
			for _, e := range l[:n+1] {
				wantError(t, "Add", f.Add(e), api.OK)
			}
			files := split(size, l[:n+1]...)
			last := files[len(files)-1]
			d.Crash(0)
			g := opened(t, d, size, 0, 0)
			wantEvents(t, "All", g.All(), l[:g.Next()-1])
			wantFiles(t, d, append(slices.Clone(files[:len(files)-1]), title(3, g.Next()))...)
			if g.Segments() != f.Segments() || len(last) <= len(title(3, g.Next())) {
				t.Errorf("%d segments, %d", g.Segments(), len(last))
			}
		}
	}
}

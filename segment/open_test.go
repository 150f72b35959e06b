package segment_test

import (
	"math"
	"slices"
	"strings"
	"testing"

	"anabranch/api"
	"anabranch/disk"
	"anabranch/segment"
)

// The tests of P8.2 that are about Open.

// TestOpen: a whole file is returned without an operation, and what was not durable is not yet.
func TestOpen(t *testing.T) {
	for _, first := range []uint64{1, 5, 126, 1 << 40} {
		for n := range 15 {
			l := run(first, n)
			p := file(3, first, l...)
			d := with(t, wide, nameOf(3, first), p[:4])
			d.Append(nameOf(3, first), []byte(p[4:]))
			d.Append("other", []byte("o"))
			d.Arm(0, 0)
			s, e := segment.Open(d, nameOf(3, first))
			wantError(t, "Open", e, api.OK)
			wantSegment(t, s, 3, first, l...)
			wantActs(t, d, 4, nameOf(3, first), 4)
			wantFiles(t, d, nameOf(3, first), p, "other", "o")
			d.Crash(len(p))
			wantGoesOn(t, d, s)
		}
	}
}

// wantGoesOn checks that events can be added to a segment, and are found in its file.
func wantGoesOn(t *testing.T, d *disk.Disk, s segment.Segment) {
	t.Helper()
	l := slices.Clone(s.L)
	for range 3 {
		x := full(api.Set, s.Next())
		x.Writer, x.Time = s.Writer, 1
		l = append(l, x)
		var e api.Errno
		s, e = s.Add(d, x)
		wantError(t, "Add", e, api.OK)
		wantSegment(t, s, s.Writer, s.First, l...)
		p, _ := d.Read(nameOf(s.Writer, s.First))
		if want := file(s.Writer, s.First, l...); string(p) != want {
			t.Errorf("the file is %.100q, want %.100q", p, want)
		}
		u, e := segment.Open(d, nameOf(s.Writer, s.First))
		wantError(t, "Open", e, api.OK)
		wantSegment(t, u, s.Writer, s.First, l...)
	}
}

// TestOpenOfEveryWriter: also of those that are no nodes, and with a first of 0 or above End. Their files have titles, but no events.
func TestOpenOfEveryWriter(t *testing.T) {
	for _, writer := range someWriters {
		for _, first := range someNumbers {
			x := full(api.Drop, first)
			x.Writer, x.Time = writer, 7
			p := file(writer, first, x)
			d := with(t, wide, nameOf(writer, first), p)
			s, e := segment.Open(d, nameOf(writer, first))
			wantError(t, "Open", e, api.OK)
			if writer < api.MaxNodes && first > 0 && first <= api.End {
				wantSegment(t, s, writer, first, x)
				wantActs(t, d, 2, nameOf(writer, first), len(p))
				continue
			}
			wantSegment(t, s, writer, first)
			wantActs(t, d, 3, nameOf(writer, first), s.Size)
			wantFiles(t, d, nameOf(writer, first), title(writer, first))
		}
	}
}

// TestOpenOfATornFile: at any place behind its title. The events before that place are there, and the file goes on behind them.
func TestOpenOfATornFile(t *testing.T) {
	l := run(5, 7)
	whole := file(3, 5, l...)
	n, good := 0, len(title(3, 5)) // the events that end at or before the place, and where the last one of them ends
	for at := good; at <= len(whole); at++ {
		if n < len(l) && at == len(file(3, 5, l[:n+1]...)) {
			n, good = n+1, at
		}
		d := with(t, wide, nameOf(3, 5), whole[:at])
		s, e := segment.Open(d, nameOf(3, 5))
		wantError(t, "Open", e, api.OK)
		wantSegment(t, s, 3, 5, l[:n]...)
		wantFiles(t, d, nameOf(3, 5), whole[:good])
		acts := 2
		if at > good {
			acts++
		}
		wantActs(t, d, acts, nameOf(3, 5), good)
		wantGoesOn(t, d, s)
	}
	if n != len(l) {
		t.Errorf("only %d events", n)
	}
}

// TestOpenOfADamagedFile: whichever bit behind the title is wrong, the events before it are there, and no others.
func TestOpenOfADamagedFile(t *testing.T) {
	l := run(5, 4)
	whole := file(3, 5, l...)
	for i := 8 * len(title(3, 5)); i < 8*len(whole); i++ {
		p := []byte(whole)
		p[i/8] ^= 1 << (i % 8)
		n := 0
		for len(file(3, 5, l[:n+1]...)) <= i/8 {
			n++
		}
		d := with(t, wide, nameOf(3, 5), string(p))
		s, e := segment.Open(d, nameOf(3, 5))
		wantError(t, "Open", e, api.OK)
		wantSegment(t, s, 3, 5, l[:n]...)
		wantFiles(t, d, nameOf(3, 5), file(3, 5, l[:n]...))
	}
}

// strangers returns the contents of records that are not event 7 of writer 3.
func strangers() []string {
	var l []string
	add := func(change func(e *api.Event)) {
		e := full(api.Set, 7)
		change(&e)
		l = append(l, encoded(e))
	}
	for _, seq := range []uint64{0, 1, 5, 6, 8, 9, 7 + 256, api.End, api.End + 1, math.MaxUint64} {
		add(func(e *api.Event) { e.Seq = seq })
	}
	for _, writer := range []int{0, 2, 4, 63, 64, 3 + 64, 3 + 128, math.MaxInt} {
		add(func(e *api.Event) { e.Writer = writer })
	}
	add(func(e *api.Event) { e.Time = 0 })
	add(func(e *api.Event) { e.Time = api.End + 1 })
	add(func(e *api.Event) { e.Kind = 0 })
	add(func(e *api.Event) { e.Kind = 7 })
	add(func(e *api.Event) { e.Key = "" })
	add(func(e *api.Event) { e.Key = strings.Repeat("k", api.MaxKey+1) })
	add(func(e *api.Event) { e.Text = []byte(strings.Repeat("t", api.MaxText+1)) })
	add(func(e *api.Event) { e.Kind, e.Node = api.Join, 64 })
	number := encoded(full(api.Put, 7))
	for kind := api.Set; kind <= api.Retire; kind++ {
		p := encoded(full(kind, 7))
		l = append(l, p+"\x00", p+p, p[:len(p)-1], p[:3], p[:1], "\x83\x00"+p[1:])
	}
	return append(l, "", "x", "ana1s\x03\x05", number[:len(number)-1]+"\x00")
}

// TestOpenUpToAStranger: a record that is whole, but not the next event. Right ones behind it are lost, too, and so is
// what is torn behind these.
func TestOpenUpToAStranger(t *testing.T) {
	l := run(5, 2)
	good, next := file(3, 5, l...), sealed(encoded(full(api.Drop, 7)))
	for _, stranger := range strangers() {
		for _, tail := range []string{"", next, next + sealed(encoded(full(api.Drop, 8))), sealed(stranger), "\x05a", next + "\x05a"} {
			d := with(t, wide, nameOf(3, 5), good+sealed(stranger)+tail)
			s, e := segment.Open(d, nameOf(3, 5))
			wantError(t, "Open", e, api.OK)
			wantSegment(t, s, 3, 5, l...)
			wantFiles(t, d, nameOf(3, 5), good)
			acts := 3
			if strings.HasSuffix(tail, "\x05a") {
				acts++ // sheet.Mend cuts, too
			}
			wantActs(t, d, acts, nameOf(3, 5), len(good))
			if t.Failed() {
				t.Fatalf("stranger %.60q, tail %q", stranger, tail)
			}
			wantGoesOn(t, d, s)
		}
	}
}

// TestOpenOfAStrangerAlone: the first record is not the first event, so there are none.
func TestOpenOfAStrangerAlone(t *testing.T) {
	for _, stranger := range strangers() {
		d := with(t, wide, nameOf(3, 7), title(3, 7)+sealed(stranger)+sealed(encoded(full(api.Drop, 7))))
		s, e := segment.Open(d, nameOf(3, 7))
		wantError(t, "Open", e, api.OK)
		wantSegment(t, s, 3, 7)
		wantFiles(t, d, nameOf(3, 7), title(3, 7))
	}
}

// wantRejected checks that Open returns an error and no segment, and leaves the files as they are, without an operation.
func wantRejected(t *testing.T, d *disk.Disk, name string, want api.Errno) {
	t.Helper()
	acts, names, files := d.Acts(), d.Names(""), [][]byte{}
	for _, n := range names {
		p, _ := d.Read(n)
		files = append(files, p)
	}
	s, e := segment.Open(d, name)
	wantNone(t, "Open of "+name, s, e, want)
	if d.Acts() != acts || !slices.Equal(d.Names(""), names) {
		t.Errorf("Open of %s: %d operations, files %q", name, d.Acts()-acts, d.Names(""))
	}
	for i, n := range names {
		if p, _ := d.Read(n); !slices.Equal(p, files[i]) {
			t.Errorf("Open of %s: %s became %q", name, n, p)
		}
	}
}

// TestOpenOfNoName: it is ErrArg, whatever else is wrong, too, and whether or not there is such a file.
func TestOpenOfNoName(t *testing.T) {
	for _, name := range []string{"", "f", "manifest", "feed-3-5", "feed-03-0000000000000005", "feed--3-0000000000000005", "feed-3-000000000000000A",
		"feed-3-00000000000000005", "feed-3-000000000000005", "feed-3-0000000000000005.new", "FEED-3-0000000000000005"} {
		d := with(t, wide, nameOf(3, 5), file(3, 5, run(5, 2)...)+"\x05a")
		d.Append(name, []byte(file(3, 5, run(5, 2)...)+"\x05a"))
		wantRejected(t, d, name, api.ErrArg)
		wantRejected(t, stopped(), name, api.ErrArg)
		wantRejected(t, nil, name, api.ErrArg)
	}
}

func TestOpenOfNoFile(t *testing.T) {
	for _, d := range []*disk.Disk{disk.New(0), with(t, wide, nameOf(3, 5), file(3, 5))} {
		for _, name := range []string{nameOf(3, 4), nameOf(3, 6), nameOf(2, 5), nameOf(33, 5), nameOf(64, 5), nameOf(3, 0)} {
			wantRejected(t, d, name, api.ErrNone)
		}
	}
	for _, name := range []string{nameOf(3, 5), nameOf(3, 6), nameOf(64, 0)} {
		wantRejected(t, stopped(), name, api.ErrStop)
		wantRejected(t, nil, name, api.ErrStop)
	}
	d := with(t, wide, nameOf(3, 5), file(3, 5)+"\x05a")
	d.Arm(0, 0)
	d.Sync(nameOf(3, 5))
	wantRejected(t, d, nameOf(3, 5), api.ErrStop)
}

// TestOpenOfAnotherTitle: a file that is refused is not cut, either, even if it is torn.
func TestOpenOfAnotherTitle(t *testing.T) {
	for _, other := range []string{
		title(3, 6), title(3, 4), title(3, 0), title(3, 5+256), title(3, 5+1<<32), title(3, 5+1<<63),
		title(2, 5), title(4, 5), title(3+64, 5), title(3+256, 5), title(5, 3), head('s', 3+1<<63, 5), head('s', 3+1<<32, 5),
		head('S', 3, 5), head('f', 3, 5), head('m', 3, 5), head(0, 3, 5), head('s'+128, 3, 5),
	} {
		for _, records := range []string{"", sealed(encoded(full(api.Drop, 5))), sealed("x"), "\x05a", sealed("x") + "\x02hi\x00\x00\x00\x00"} {
			d := with(t, wide, nameOf(3, 5), other+records)
			wantRejected(t, d, nameOf(3, 5), api.ErrForm)
			d.Arm(0, 0)
			wantRejected(t, d, nameOf(3, 5), api.ErrForm)
		}
	}
}

func TestOpenOfNoSheet(t *testing.T) {
	whole := title(3, 5)
	damaged := []byte(whole)
	damaged[3] ^= 1
	for p, want := range map[string]api.Errno{
		"":                                api.ErrShort,
		"no sheet":                        api.ErrShort,
		whole[:len(whole)-1]:              api.ErrShort,
		whole[:1]:                         api.ErrShort,
		sealed("ana1s\x03"):               api.ErrShort,
		string(damaged):                   api.ErrForm,
		sealed("no title"):                api.ErrForm,
		sealed("ana1s\x03\x05\x00"):       api.ErrForm,
		sealed("ana1s\x83\x00\x05"):       api.ErrForm,
		sealed(encoded(run(5, 1)[0])):     api.ErrForm,
		sealed("ana0s\x03\x05") + "\x05a": api.ErrForm,
		"\x81\x80\x80\x01" + whole:        api.ErrLong,
	} {
		wantRejected(t, with(t, wide, nameOf(3, 5), p), nameOf(3, 5), want)
	}
}

// TestOpenAtWhichTheDiskStops: at the cut of what is torn there is no segment, at that of a stranger there is one. After
// a crash the events are there.
func TestOpenAtWhichTheDiskStops(t *testing.T) {
	l := run(5, 2)
	good, stranger := file(3, 5, l...), sealed(encoded(full(api.Drop, 8)))
	for _, c := range []struct {
		tail string
		torn int // the bytes at the end of it that are no record
	}{{"\x05a", 2}, {stranger[:9], 9}, {stranger, 0}, {stranger + stranger, 0}, {stranger + "\x05a", 2}} {
		for stop := range 3 {
			d := with(t, wide, nameOf(3, 5), good+c.tail)
			d.Arm(stop, 9)
			s, e := segment.Open(d, nameOf(3, 5))
			cuts := []int{} // the lengths that the file is cut to
			if c.torn > 0 {
				cuts = append(cuts, len(good)+len(c.tail)-c.torn)
			}
			if len(c.tail) > c.torn {
				cuts = append(cuts, len(good))
			}
			length := len(good) + len(c.tail)
			if n := min(stop, len(cuts)); n > 0 {
				length = cuts[n-1]
			}
			switch {
			case stop >= len(cuts):
				wantError(t, "Open", e, api.OK)
				wantSegment(t, s, 3, 5, l...)
			case cuts[stop] == len(good) && len(c.tail) > c.torn:
				wantError(t, "Open", e, api.ErrStop)
				wantSegment(t, s, 3, 5, l...)
			default:
				wantNone(t, "Open", s, e, api.ErrStop)
			}
			d.Crash(0)
			wantFiles(t, d, nameOf(3, 5), (good + c.tail)[:length])
			s, e = segment.Open(d, nameOf(3, 5))
			wantError(t, "Open again", e, api.OK)
			wantSegment(t, s, 3, 5, l...)
			wantFiles(t, d, nameOf(3, 5), good)
			wantGoesOn(t, d, s)
		}
	}
}

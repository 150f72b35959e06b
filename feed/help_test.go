package feed_test

import (
	"encoding/binary"
	"fmt"
	"hash/crc32"
	"math"
	"math/rand"
	"slices"
	"strings"
	"testing"

	"anabranch/api"
	"anabranch/disk"
	"anabranch/feed"
)

// wide is room for everything that a test writes.
const wide = 1 << 25

// large is a size that no file reaches.
const large = math.MaxInt

var castagnoli = crc32.MakeTable(crc32.Castagnoli)

// The following functions make files without the program's packages.

// nameOf returns the name of a segment's file (P8.1).
func nameOf(writer int, first uint64) string {
	return fmt.Sprintf("feed-%d-%016x", writer, first)
}

// sealed returns the record of these contents (P3.1).
func sealed(contents string) string {
	p := append(binary.AppendUvarint(nil, uint64(len(contents))), contents...)
	return string(binary.BigEndian.AppendUint32(p, crc32.Checksum(p, castagnoli)))
}

// head returns the record of a title (P5.1).
func head(kind byte, a, b uint64) string {
	return sealed(string(binary.AppendUvarint(binary.AppendUvarint([]byte{'a', 'n', 'a', '1', kind}, a), b)))
}

// title returns the title of a segment.
func title(writer int, first uint64) string {
	return head('s', uint64(writer), first)
}

// record returns the record of an event (P6.2).
func record(e api.Event) string {
	p := binary.AppendUvarint(nil, uint64(e.Writer))
	p = append(binary.AppendUvarint(binary.AppendUvarint(p, e.Seq), e.Time), e.Kind)
	key := append(binary.AppendUvarint(nil, uint64(len(e.Key))), e.Key...)
	switch e.Kind {
	case api.Set:
		p = append(binary.AppendUvarint(append(p, key...), uint64(len(e.Text))), e.Text...)
	case api.Put, api.Add:
		p = binary.BigEndian.AppendUint64(append(p, key...), math.Float64bits(e.Num))
	case api.Drop:
		p = append(p, key...)
	case api.Join:
		p = binary.AppendUvarint(p, uint64(e.Node))
	}
	return sealed(string(p))
}

// file returns the bytes of a segment.
func file(writer int, first uint64, l ...api.Event) string {
	p := title(writer, first)
	for _, e := range l {
		p += record(e)
	}
	return p
}

// full returns an event of writer 3 of a kind, in which every field has a value.
func full(kind byte, seq uint64) api.Event {
	return api.Event{Writer: 3, Seq: seq, Time: 10 * seq, Kind: kind, Key: "key", Text: []byte("hi"), Num: 1.5, Node: 5}
}

// run returns n events of writer 3, from first on, of all kinds but Retire, and of different lengths.
func run(first uint64, n int) []api.Event {
	var l []api.Event
	for i := range uint64(n) {
		e := full(byte(i%5)+1, first+i)
		e.Text = []byte(strings.Repeat("t", int(i%11)*20))
		l = append(l, e)
	}
	return l
}

// part returns the name and the bytes of a segment of writer 3, with n events from first on.
func part(first uint64, n int) []string {
	return []string{nameOf(3, first), file(3, first, run(first, n)...)}
}

// parts returns the names and bytes of segments of writer 3, given as first, n, first, n ..
func parts(numbers ...int) []string {
	var files []string
	for i := 0; i < len(numbers); i += 2 {
		files = append(files, part(uint64(numbers[i]), numbers[i+1])...)
	}
	return files
}

// randomEvent returns an event of a writer, of any kind, seldom a Retire.
func randomEvent(r *rand.Rand, writer int, seq, time uint64) api.Event {
	e := api.Event{Writer: writer, Seq: seq, Time: time, Kind: byte(1 + r.Intn(5)), Key: strings.Repeat("k", 1+r.Intn(3)),
		Text: []byte(strings.Repeat("t", r.Intn(20))), Num: r.NormFloat64(), Node: r.Intn(64)}
	if r.Intn(60) == 0 {
		e.Kind = api.Retire
	}
	return e
}

// plain returns an event without what its kind does not use (P6.1).
func plain(e api.Event) api.Event {
	p := api.Event{Writer: e.Writer, Seq: e.Seq, Time: e.Time, Kind: e.Kind}
	switch e.Kind {
	case api.Set:
		p.Key, p.Text = e.Key, e.Text
	case api.Put, api.Add:
		p.Key, p.Num = e.Key, e.Num
	case api.Drop:
		p.Key = e.Key
	case api.Join:
		p.Node = e.Node
	}
	return p
}

// isPlain reports whether got is e without what its kind does not use.
func isPlain(got, e api.Event) bool {
	e = plain(e)
	return got.Writer == e.Writer && got.Seq == e.Seq && got.Time == e.Time && got.Kind == e.Kind && got.Key == e.Key &&
		string(got.Text) == string(e.Text) && got.Num == e.Num && got.Node == e.Node
}

func wantError(t *testing.T, what string, got, want api.Errno) {
	t.Helper()
	if got != want {
		t.Errorf("%s: %d, want %d", what, got, want)
	}
}

// wantEvents checks a list of events. They are those that were added, which may have fields that their kinds do not use.
func wantEvents(t *testing.T, what string, got, want []api.Event) {
	t.Helper()
	if !slices.EqualFunc(got, want, isPlain) {
		t.Errorf("%s = %d events %.200q, want %d events %.200q", what, len(got), fmt.Sprint(got), len(want), fmt.Sprint(want))
	}
}

// wantFeed checks everything that a feed of writer 3 tells; time is that of its Time if there are no events after the floor.
func wantFeed(t *testing.T, f *feed.Feed, floor, time uint64, segments int, l ...api.Event) {
	t.Helper()
	next, retired := floor+1, false
	if len(l) > 0 {
		last := l[len(l)-1]
		next, time, retired = last.Seq+1, last.Time, last.Kind == api.Retire
	}
	if f.Writer() != 3 || f.Floor() != floor || f.Next() != next || f.Time() != time || f.Sealed() != retired || f.Segments() != segments {
		t.Errorf("writer %d, floor %d, next %d, time %d, %v, %d segments, want 3, %d, %d, %d, %v, %d", f.Writer(), f.Floor(), f.Next(), f.Time(),
			f.Sealed(), f.Segments(), floor, next, time, retired, segments)
	}
	wantEvents(t, "All", f.All(), l)
	wantNone(t, f, 0, api.ErrNone)
	for _, n := range []uint64{1, floor / 2, floor - 1, floor, api.End, math.MaxUint64} {
		if n > 0 && n <= floor {
			wantNone(t, f, n, api.ErrFolded)
		}
	}
	for _, n := range []uint64{next, next + 1, 2 * next, api.End, math.MaxUint64} {
		if n >= next && n > floor {
			wantNone(t, f, n, api.ErrNone)
		}
	}
	for i, e := range l {
		got, err := f.Get(e.Seq)
		wantError(t, "Get", err, api.OK)
		if !isPlain(got, e) {
			t.Errorf("Get(%d) = %v", e.Seq, got)
		}
		for _, most := range []int{math.MinInt, -1, 0, 1, 2, len(l) - i - 1, len(l) - i, len(l) - i + 1, math.MaxInt} {
			got, err := f.Range(e.Seq, most)
			wantError(t, "Range", err, api.OK)
			wantEvents(t, fmt.Sprintf("Range(%d, %d)", e.Seq, most), got, l[i:i+min(max(most, 0), len(l)-i)])
		}
	}
}

// wantNone checks what Get and Range return for a number of which they have no event.
func wantNone(t *testing.T, f *feed.Feed, seq uint64, want api.Errno) {
	t.Helper()
	got, e := f.Get(seq)
	wantError(t, fmt.Sprintf("Get(%d)", seq), e, want)
	wantEvents(t, "Get with an error", []api.Event{got}, []api.Event{{}})
	for _, most := range []int{-1, 0, 1, 100} {
		l, e := f.Range(seq, most)
		wantError(t, fmt.Sprintf("Range(%d, %d)", seq, most), e, want)
		wantEvents(t, "Range with an error", l, nil)
	}
}

// wantNoFeed checks what Open returned with an error.
func wantNoFeed(t *testing.T, f *feed.Feed, e, want api.Errno) {
	t.Helper()
	if f != nil || e != want {
		t.Errorf("Open: %v, %d, want %d", f, e, want)
	}
}

// wantFiles checks that a disk that has not stopped has exactly these files, given as name, contents, name, contents ..
func wantFiles(t *testing.T, d *disk.Disk, files ...string) {
	t.Helper()
	var names []string
	for i := 0; i < len(files); i += 2 {
		names = append(names, files[i])
		if p, e := d.Read(files[i]); e != api.OK || string(p) != files[i+1] {
			t.Errorf("Read(%s) = %.100q, %d, want %.100q", files[i], p, e, files[i+1])
		}
	}
	slices.Sort(names)
	if got := d.Names(""); !slices.Equal(got, names) {
		t.Errorf("Names = %q, want %q", got, names)
	}
}

// with returns a disk with files of these contents, durable, given as name, contents, name, contents ..
func with(t *testing.T, files ...string) *disk.Disk {
	t.Helper()
	d := disk.New(wide)
	for i := 0; i < len(files); i += 2 {
		wantError(t, "Append", d.Append(files[i], []byte(files[i+1])), api.OK)
		wantError(t, "Sync", d.Sync(files[i]), api.OK)
	}
	return d
}

// stopped returns a disk with these files that has stopped.
func stopped(t *testing.T, files ...string) *disk.Disk {
	t.Helper()
	d := with(t, files...)
	d.Arm(0, 0)
	d.Sync("x")
	return d
}

// opened returns the feed of writer 3 on a disk.
func opened(t *testing.T, d *disk.Disk, size int, floor, time uint64) *feed.Feed {
	t.Helper()
	f, e := feed.Open(d, 3, size, floor, time)
	if e != api.OK {
		t.Fatalf("Open: %d", e)
	}
	return f
}

// begun returns a feed of writer 3 with these events, the first of which has the number 1, and its disk, on which all are durable.
func begun(t *testing.T, size int, l ...api.Event) (*feed.Feed, *disk.Disk) {
	t.Helper()
	d := disk.New(wide)
	f := opened(t, d, size, 0, 0)
	for _, e := range l {
		wantError(t, "Add", f.Add(e), api.OK)
	}
	wantError(t, "Sync", f.Sync(), api.OK)
	return f, d
}

// sizeOf returns the length of the file with n events from first on.
func sizeOf(first uint64, n int) int {
	return len(file(3, first, run(first, n)...))
}

func newRandom(seed int64) *rand.Rand {
	return rand.New(rand.NewSource(seed))
}

package segment_test

import (
	"encoding/binary"
	"fmt"
	"hash/crc32"
	"math"
	"math/rand"
	"slices"
	"strings"
	"testing"

	"anabranch/api"
	"anabranch/disk"
	"anabranch/segment"
)

// wide is room for everything that a test writes.
const wide = 1 << 25

var castagnoli = crc32.MakeTable(crc32.Castagnoli)

// nan has other bits than the one NaN of package quantity.
var nan = math.Float64frombits(math.MaxUint64)

// The following functions make files without the program's packages.

// nameOf returns what P8.1 says Name returns.
func nameOf(writer int, first uint64) string {
	return fmt.Sprintf("feed-%d-%016x", writer, first)
}

// sealed returns the record of these contents (P3.1).
func sealed(contents string) string {
	p := append(binary.AppendUvarint(nil, uint64(len(contents))), contents...)
	return string(binary.BigEndian.AppendUint32(p, crc32.Checksum(p, castagnoli)))
}

// head returns the record of a title (P5.1).
func head(kind byte, a, b uint64) string {
	return sealed(string(binary.AppendUvarint(binary.AppendUvarint([]byte{'a', 'n', 'a', '1', kind}, a), b)))
}

// title returns the title of a segment.
func title(writer int, first uint64) string {
	return head('s', uint64(writer), first)
}

// encoded returns the encoding of an event (P6.2).
func encoded(e api.Event) string {
	p := binary.AppendUvarint(nil, uint64(e.Writer))
	p = append(binary.AppendUvarint(binary.AppendUvarint(p, e.Seq), e.Time), e.Kind)
	key := append(binary.AppendUvarint(nil, uint64(len(e.Key))), e.Key...)
	bits := math.Float64bits(e.Num)
	if e.Num != e.Num {
		bits = 0x7ff8000000000001
	}
	switch e.Kind {
	case api.Set:
		p = append(binary.AppendUvarint(append(p, key...), uint64(len(e.Text))), e.Text...)
	case api.Put, api.Add:
		p = binary.BigEndian.AppendUint64(append(p, key...), bits)
	case api.Drop:
		p = append(p, key...)
	case api.Join:
		p = binary.AppendUvarint(p, uint64(e.Node))
	}
	return string(p)
}

// file returns the bytes of a segment.
func file(writer int, first uint64, l ...api.Event) string {
	p := title(writer, first)
	for _, e := range l {
		p += sealed(encoded(e))
	}
	return p
}

// plain returns an event without what its kind does not use (P6.1).
func plain(e api.Event) api.Event {
	p := api.Event{Writer: e.Writer, Seq: e.Seq, Time: e.Time, Kind: e.Kind}
	switch e.Kind {
	case api.Set:
		p.Key, p.Text = e.Key, e.Text
	case api.Put, api.Add:
		p.Key, p.Num = e.Key, e.Num
		if e.Num != e.Num {
			p.Num = math.Float64frombits(0x7ff8000000000001)
		}
	case api.Drop:
		p.Key = e.Key
	case api.Join:
		p.Node = e.Node
	}
	return p
}

// identical reports whether two events are equal in every field, to the bit.
func identical(a, b api.Event) bool {
	return a.Writer == b.Writer && a.Seq == b.Seq && a.Time == b.Time && a.Kind == b.Kind && a.Key == b.Key &&
		string(a.Text) == string(b.Text) && math.Float64bits(a.Num) == math.Float64bits(b.Num) && a.Node == b.Node
}

// full returns an event of writer 3 of a kind, in which every field has a value.
func full(kind byte, seq uint64) api.Event {
	return api.Event{Writer: 3, Seq: seq, Time: 2 * seq, Kind: kind, Key: "key", Text: []byte("hi"), Num: nan, Node: 5}
}

// run returns n events of writer 3, from first on, of all kinds and different lengths.
func run(first uint64, n int) []api.Event {
	var l []api.Event
	for i := range uint64(n) {
		e := full(byte(i%6)+1, first+i)
		e.Text = []byte(strings.Repeat("t", int(i)*20))
		l = append(l, e)
	}
	return l
}

// randomEvent returns an event of a writer, of any kind.
func randomEvent(r *rand.Rand, writer int, seq uint64) api.Event {
	text := make([]byte, r.Intn(20))
	r.Read(text)
	return api.Event{Writer: writer, Seq: seq, Time: 1 + r.Uint64()%api.End, Kind: byte(1 + r.Intn(6)),
		Key: strings.Repeat("k", 1+r.Intn(3)), Text: text, Num: r.NormFloat64(), Node: r.Intn(64)}
}

func wantError(t *testing.T, what string, got, want api.Errno) {
	t.Helper()
	if got != want {
		t.Errorf("%s: %d, want %d", what, got, want)
	}
}

// brief tells what a segment is, and of many events only the first ones.
func brief(s segment.Segment) string {
	return fmt.Sprintf("%d, %d, %d events %.200q, %d", s.Writer, s.First, len(s.L), fmt.Sprint(s.L), s.Size)
}

// wantSegment checks everything that a segment tells. The events are those that were added, which may have fields that their kinds do not use.
func wantSegment(t *testing.T, s segment.Segment, writer int, first uint64, l ...api.Event) {
	t.Helper()
	same := slices.EqualFunc(s.L, l, func(got, e api.Event) bool { return identical(got, plain(e)) })
	if size := len(file(writer, first, l...)); s.Writer != writer || s.First != first || !same || s.Size != size {
		t.Errorf("%s, want %d, %d, %d events %.200q, %d", brief(s), writer, first, len(l), fmt.Sprint(l), size)
	}
	if s.Next() != first+uint64(len(l)) {
		t.Errorf("Next = %d, want %d", s.Next(), first+uint64(len(l)))
	}
}

// wantNone checks what Create or Open returned with an error.
func wantNone(t *testing.T, what string, s segment.Segment, e, want api.Errno) {
	t.Helper()
	if e != want || s.Writer != 0 || s.First != 0 || len(s.L) != 0 || s.Size != 0 || s.Next() != 0 {
		t.Errorf("%s: %s, %d, want %d", what, brief(s), e, want)
	}
}

// wantFiles checks that a disk that has not stopped has exactly these files, given as name, contents, name, contents ..
func wantFiles(t *testing.T, d *disk.Disk, files ...string) {
	t.Helper()
	var names []string
	for i := 0; i < len(files); i += 2 {
		names = append(names, files[i])
		if p, e := d.Read(files[i]); e != api.OK || string(p) != files[i+1] {
			t.Errorf("Read(%s) = %.100q, %d, want %.100q", files[i], p, e, files[i+1])
		}
	}
	if got := d.Names(""); !slices.Equal(got, names) {
		t.Errorf("Names = %q, want %q", got, names)
	}
}

// wantActs checks how many operations a disk has counted, and how many bytes of a file are durable.
func wantActs(t *testing.T, d *disk.Disk, acts int, name string, safe int) {
	t.Helper()
	if d.Acts() != acts || d.Safe(name) != safe {
		t.Errorf("%d operations, %d bytes are durable, want %d, %d", d.Acts(), d.Safe(name), acts, safe)
	}
}

// with returns a disk with a file of these contents, durable, and a room of so many bytes more.
func with(t *testing.T, room int, name, contents string) *disk.Disk {
	t.Helper()
	d := disk.New(len(contents) + room)
	wantError(t, "Append", d.Append(name, []byte(contents)), api.OK)
	wantError(t, "Sync", d.Sync(name), api.OK)
	return d
}

// stopped returns a disk that has stopped.
func stopped() *disk.Disk {
	d := disk.New(wide)
	d.Arm(0, 0)
	d.Sync("x")
	return d
}

// begun returns a segment of writer 3 with these events, and its disk, on which all of them are durable.
func begun(t *testing.T, first uint64, l ...api.Event) (segment.Segment, *disk.Disk) {
	t.Helper()
	d := disk.New(wide)
	s, e := segment.Create(d, 3, first)
	wantError(t, "Create", e, api.OK)
	for _, x := range l {
		s, e = s.Add(d, x)
		wantError(t, "Add", e, api.OK)
	}
	d.Sync(nameOf(3, first))
	return s, d
}

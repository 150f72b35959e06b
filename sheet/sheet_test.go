package sheet_test

import (
	"encoding/binary"
	"fmt"
	"hash/crc32"
	"math"
	"slices"
	"strings"
	"testing"

	"anabranch/api"
	"anabranch/disk"
	"anabranch/sheet"
)

// wide is room for everything that a test writes.
const wide = 1 << 25

var castagnoli = crc32.MakeTable(crc32.Castagnoli)

// sealed returns the record of these contents, made without package check.
func sealed(contents string) string {
	p := append(binary.AppendUvarint(nil, uint64(len(contents))), contents...)
	return string(binary.BigEndian.AppendUint32(p, crc32.Checksum(p, castagnoli)))
}

// head returns what P5.1 says Head returns, made without the program's packages.
func head(t sheet.Title) string {
	p := append([]byte("ana1"), t.Kind)
	return sealed(string(binary.AppendUvarint(binary.AppendUvarint(p, t.A), t.B)))
}

// file returns the bytes of a sheet.
func file(t sheet.Title, records ...string) string {
	p := head(t)
	for _, r := range records {
		p += sealed(r)
	}
	return p
}

// lists returns each of these texts as bytes.
func lists(texts ...string) [][]byte {
	var l [][]byte
	for _, s := range texts {
		l = append(l, []byte(s))
	}
	return l
}

var some = sheet.Title{Kind: 'x', A: 1, B: 300}

var titles = []sheet.Title{
	{},
	some,
	{Kind: 's', A: 3, B: 255},
	{Kind: 255, A: 127, B: 128},
	{Kind: 0, A: math.MaxUint64, B: 0},
	{Kind: 1, A: 0, B: math.MaxUint64},
	{Kind: 128, A: math.MaxUint64, B: math.MaxUint64},
}

func wantError(t *testing.T, what string, got, want api.Errno) {
	t.Helper()
	if got != want {
		t.Errorf("%s: %d, want %d", what, got, want)
	}
}

// brief tells what a sheet is, and of long records only how they begin.
func brief(s sheet.Sheet) string {
	return fmt.Sprintf("%v, %.100q, %d, %d", s.T, s.L, s.Good, s.E)
}

// wantSheet checks a sheet that a call returned without an error.
func wantSheet(t *testing.T, s sheet.Sheet, e api.Errno, title sheet.Title, good int, end api.Errno, records ...string) {
	t.Helper()
	same := slices.EqualFunc(s.L, records, func(p []byte, r string) bool { return string(p) == r })
	if e != api.OK || s.T != title || !same || s.Good != good || s.E != end {
		t.Errorf("%s, %d, want %v, %.100q, %d, %d", brief(s), e, title, records, good, end)
	}
}

// wantNone checks what a call returned with an error.
func wantNone(t *testing.T, what string, s sheet.Sheet, e, want api.Errno) {
	t.Helper()
	if e != want || s.T != (sheet.Title{}) || len(s.L) != 0 || s.Good != 0 || s.E != api.OK {
		t.Errorf("%s: %s, %d, want %d", what, brief(s), e, want)
	}
}

// wantFiles checks that a disk that has not stopped has exactly these files, given as name, contents, name, contents ..
func wantFiles(t *testing.T, d *disk.Disk, files ...string) {
	t.Helper()
	var names []string
	for i := 0; i < len(files); i += 2 {
		names = append(names, files[i])
		if p, e := d.Read(files[i]); e != api.OK || string(p) != files[i+1] {
			t.Errorf("Read(%s) = %.100q, %d, want %.100q", files[i], p, e, files[i+1])
		}
	}
	if got := d.Names(""); !slices.Equal(got, names) {
		t.Errorf("Names = %q, want %q", got, names)
	}
}

// with returns a disk with files of these contents, durable, and a room of so many bytes more.
func with(t *testing.T, room int, files ...string) *disk.Disk {
	t.Helper()
	d := disk.New(wide)
	for i := 0; i < len(files); i += 2 {
		wantError(t, "Append", d.Append(files[i], []byte(files[i+1])), api.OK)
		wantError(t, "Sync", d.Sync(files[i]), api.OK)
	}
	_, used := d.Room()
	d.Widen(used + room)
	return d
}

// badNames are names that no file may have.
var badNames = []string{"", "A", "a b", "a/b", "é", "a\x00", "\xff", strings.Repeat("x", api.MaxFile+1)}

// The tests of P5.1.

func TestHead(t *testing.T) {
	if got, want := string(sheet.Head(some)), sealed("ana1x\x01\xac\x02"); got != want {
		t.Errorf("Head = %q, want %q", got, want)
	}
	for _, x := range titles {
		if got, want := string(sheet.Head(x)), head(x); got != want {
			t.Errorf("Head(%v) = %q, want %q", x, got, want)
		}
	}
}

func TestScan(t *testing.T) {
	for _, x := range titles {
		for _, records := range [][]string{
			nil,
			{""},
			{"one"},
			{"one", "", "two", "two"},
			{"ana1", string(sheet.Head(x)), "ana1x\x01\x02"},
			{strings.Repeat("r", 127), strings.Repeat("r", 128), strings.Repeat("r", 70000)},
		} {
			p := file(x, records...)
			s, e := sheet.Scan([]byte(p))
			wantSheet(t, s, e, x, len(p), api.OK, records...)
		}
	}
}

// TestScanWithoutATitle: the first record is damaged, cut off, too long, or no title's; what comes after it does not matter.
func TestScanWithoutATitle(t *testing.T) {
	damaged := []byte(head(some))
	damaged[6] ^= 1
	overlong := "\x87\x00ana1x\x01\x02"
	long := strings.Repeat("t", sheet.Most+1)
	for _, c := range []struct {
		first string
		want  api.Errno
	}{
		{"nothing", api.ErrShort},
		{"\x03nothing", api.ErrForm},
		{string(damaged), api.ErrForm},
		{overlong, api.ErrForm},
		{sealed(long), api.ErrLong},
		{"\x81\x80\x80\x01", api.ErrLong},
		{sealed(long[1:]), api.ErrForm},
		{sealed("nothing"), api.ErrForm},
		{sealed("x"), api.ErrForm},
		{sealed("an1"), api.ErrForm},
		{sealed("ana2x\x01\x02"), api.ErrForm},
		{sealed("Ana1x\x01\x02"), api.ErrForm},
		{sealed("bna1x\x01\x02"), api.ErrForm},
		{sealed("x\x01\x02"), api.ErrForm},
		{sealed("ana1x\x01\x02\x03"), api.ErrForm},
		{sealed("ana1x\x01\x02\x00"), api.ErrForm},
		{sealed("ana1x\x81\x00\x02"), api.ErrForm},
		{sealed("ana1x\x01\x82\x00"), api.ErrForm},
		{sealed("ana1x\x01\xff\xff\xff\xff\xff\xff\xff\xff\xff\x02"), api.ErrForm},
		{sealed(""), api.ErrShort},
		{sealed("ana"), api.ErrShort},
		{sealed("ana1"), api.ErrShort},
		{sealed("ana1x"), api.ErrShort},
		{sealed("ana1x\x81"), api.ErrShort},
		{sealed("ana1x\x01"), api.ErrShort},
		{sealed("ana1x\x01\x82"), api.ErrShort},
	} {
		for _, rest := range []string{"", sealed("one"), head(some) + sealed("one")} {
			s, e := sheet.Scan([]byte(c.first + rest))
			wantNone(t, fmt.Sprintf("Scan of %.30q", c.first), s, e, c.want)
		}
	}
	for _, p := range [][]byte{nil, {}} {
		s, e := sheet.Scan(p)
		wantNone(t, "Scan of nothing", s, e, api.ErrShort)
	}
}

// TestScanOfEveryBeginning: a sheet that is torn at any place.
func TestScanOfEveryBeginning(t *testing.T) {
	records := []string{"one", "", strings.Repeat("r", 130), "two"}
	p := file(some, records...)
	ends := []int{len(head(some))}
	for _, r := range records {
		ends = append(ends, ends[len(ends)-1]+len(sealed(r)))
	}
	for n := range len(p) + 1 {
		s, e := sheet.Scan([]byte(p[:n]))
		if n < ends[0] {
			wantNone(t, "Scan of a torn title", s, e, api.ErrShort)
			continue
		}
		i, whole := slices.BinarySearch(ends, n)
		end := api.OK
		if !whole {
			i--
			end = api.ErrShort
		}
		wantSheet(t, s, e, some, ends[i], end, records[:i]...)
	}
}

// TestScanNoticesDamage: whichever bit of a sheet is wrong, what follows it is not returned, and what comes before it is.
func TestScanNoticesDamage(t *testing.T) {
	records := []string{"one", "", "two"}
	whole := file(some, records...)
	for i := range 8 * len(whole) {
		p := []byte(whole)
		p[i/8] ^= 1 << (i % 8)
		s, e := sheet.Scan(p)
		at := len(head(some))
		if i/8 < at {
			if e == api.OK {
				t.Errorf("bit %d: no error", i)
			}
			wantNone(t, "Scan of a damaged title", s, e, e)
			continue
		}
		n := 0
		for at+len(sealed(records[n])) <= i/8 {
			at += len(sealed(records[n]))
			n++
		}
		if s.E == api.OK {
			t.Errorf("bit %d: no error", i)
		}
		wantSheet(t, s, e, some, at, s.E, records[:n]...)
	}
}

func TestScanUpToAnInvalidRecord(t *testing.T) {
	most, long := strings.Repeat("m", sheet.Most), strings.Repeat("l", sheet.Most+1)
	wrong := "\x02hi\x00\x00\x00\x00"
	for _, c := range []struct {
		rest string
		end  api.Errno
	}{
		{wrong, api.ErrForm},
		{"\x80\x00", api.ErrForm},
		{"\x80", api.ErrShort},
		{"\x05a", api.ErrShort},
		{sealed(long), api.ErrLong},
		{"\x81\x80\x80\x01", api.ErrLong},
		{"\x80\x80\x80\x01", api.ErrShort},
	} {
		for _, after := range []string{"", sealed("after")} {
			if c.end == api.ErrShort && after != "" {
				continue
			}
			p := file(some, "one", most, "")
			s, e := sheet.Scan([]byte(p + c.rest + after))
			wantSheet(t, s, e, some, len(p), c.end, "one", most, "")
		}
	}
}

// The tests of P5.2.

func TestBegin(t *testing.T) {
	for _, x := range titles {
		d := with(t, len(head(x)), "other", "o")
		acts := d.Acts()
		wantError(t, "Begin", sheet.Begin(d, "f", x), api.OK)
		if d.Safe("f") != len(head(x)) || d.Acts() != acts+2 {
			t.Errorf("%d bytes are durable, %d operations", d.Safe("f"), d.Acts()-acts)
		}
		wantFiles(t, d, "f", head(x), "other", "o")
		s, e := sheet.Read(d, "f")
		wantSheet(t, s, e, x, len(head(x)), api.OK)
		wantError(t, "Begin again", sheet.Begin(d, "f", x), api.ErrOld)
		wantFiles(t, d, "f", head(x), "other", "o")
	}
}

// TestBeginOfAnOldFile: whatever it holds, it stays, even if there is no room.
func TestBeginOfAnOldFile(t *testing.T) {
	for _, p := range []string{"", "no sheet", file(some, "one")} {
		for _, room := range []int{0, wide} {
			d := with(t, room, "f", p)
			wantError(t, "Begin", sheet.Begin(d, "f", some), api.ErrOld)
			wantFiles(t, d, "f", p)
		}
	}
}

func TestBeginWithoutRoom(t *testing.T) {
	d := with(t, len(head(some))-1, "other", "o")
	wantError(t, "Begin", sheet.Begin(d, "f", some), api.ErrFull)
	wantFiles(t, d, "other", "o")
}

func TestBeginOfABadName(t *testing.T) {
	for _, name := range badNames {
		d := with(t, wide, "other", "o")
		wantError(t, "Begin", sheet.Begin(d, name, some), api.ErrArg)
		wantFiles(t, d, "other", "o")
		wantError(t, "Begin on a nil disk", sheet.Begin(nil, name, some), api.ErrArg)
	}
	longest := strings.Repeat("x", api.MaxFile)
	d := with(t, wide)
	wantError(t, "Begin", sheet.Begin(d, longest, some), api.OK)
	wantFiles(t, d, longest, head(some))
}

// TestBeginAtWhichTheDiskStops: a crash leaves no file, or a part of it, or all of it.
func TestBeginAtWhichTheDiskStops(t *testing.T) {
	whole := head(some)
	for torn := range len(whole) + 2 {
		d := with(t, wide)
		d.Arm(0, torn)
		wantError(t, "Begin", sheet.Begin(d, "f", some), api.ErrStop)
		wantError(t, "Begin after it", sheet.Begin(d, "f", some), api.ErrStop)
		d.Crash(len(whole))
		if torn == 0 {
			wantFiles(t, d)
		} else {
			wantFiles(t, d, "f", whole[:min(torn, len(whole))])
		}
	}
	for keep := range len(whole) + 1 {
		d := with(t, wide)
		d.Arm(1, 3)
		wantError(t, "Begin", sheet.Begin(d, "f", some), api.ErrStop)
		d.Crash(keep)
		wantFiles(t, d, "f", whole[:keep])
	}
	d := with(t, wide)
	d.Arm(2, 3)
	wantError(t, "Begin", sheet.Begin(d, "f", some), api.OK)
	d.Crash(0)
	wantFiles(t, d, "f", whole)
}

func TestAdd(t *testing.T) {
	d := with(t, wide, "f", file(some), "other", "o")
	records := []string{"one", "", strings.Repeat("r", 128), "ana1"}
	for _, r := range records {
		acts := d.Acts()
		wantError(t, "Add", sheet.Add(d, "f", []byte(r)), api.OK)
		if d.Acts() != acts+1 || d.Safe("f") != len(head(some)) {
			t.Errorf("%d operations, %d bytes are durable", d.Acts()-acts, d.Safe("f"))
		}
	}
	wantError(t, "Add of nil", sheet.Add(d, "f", nil), api.OK)
	wantFiles(t, d, "f", file(some, append(records, "")...), "other", "o")
}

func TestAddOfTheLongest(t *testing.T) {
	long := []byte(strings.Repeat("l", sheet.Most+1))
	d := with(t, wide, "f", file(some))
	acts := d.Acts()
	wantError(t, "Add of too much", sheet.Add(d, "f", long), api.ErrLong)
	wantError(t, "Add of too much to none", sheet.Add(d, "g", long), api.ErrLong)
	wantError(t, "Add of too much to a bad name", sheet.Add(d, "F", long), api.ErrLong)
	wantError(t, "Add of too much to a nil disk", sheet.Add(nil, "f", long), api.ErrLong)
	if d.Acts() != acts {
		t.Errorf("%d operations", d.Acts()-acts)
	}
	wantFiles(t, d, "f", file(some))
	wantError(t, "Add of the most", sheet.Add(d, "f", long[1:]), api.OK)
	wantFiles(t, d, "f", file(some, string(long[1:])))
}

// TestAddToAFileThatIsNoSheet: Add appends, whatever there is.
func TestAddToAFileThatIsNoSheet(t *testing.T) {
	d := with(t, wide, "f", "no sheet")
	wantError(t, "Add", sheet.Add(d, "f", []byte("one")), api.OK)
	wantError(t, "Add to a new file", sheet.Add(d, "g", []byte("one")), api.OK)
	wantFiles(t, d, "f", "no sheet"+sealed("one"), "g", sealed("one"))
}

func TestAddWithoutRoom(t *testing.T) {
	size := len(sealed("one"))
	d := with(t, size, "f", file(some))
	wantError(t, "Add of too much", sheet.Add(d, "f", []byte("many")), api.ErrFull)
	wantFiles(t, d, "f", file(some))
	wantError(t, "Add up to the room", sheet.Add(d, "f", []byte("one")), api.OK)
	wantError(t, "Add without room", sheet.Add(d, "f", nil), api.ErrFull)
	wantFiles(t, d, "f", file(some, "one"))
}

func TestAddToABadName(t *testing.T) {
	for _, name := range badNames {
		d := with(t, wide, "f", file(some))
		wantError(t, "Add", sheet.Add(d, name, []byte("one")), api.ErrArg)
		wantError(t, "Add to a nil disk", sheet.Add(nil, name, nil), api.ErrArg)
		wantFiles(t, d, "f", file(some))
	}
}

func TestAddAtWhichTheDiskStops(t *testing.T) {
	whole := sealed("one")
	for torn := range len(whole) + 2 {
		d := with(t, wide, "f", file(some))
		d.Arm(0, torn)
		wantError(t, "Add", sheet.Add(d, "f", []byte("one")), api.ErrStop)
		wantError(t, "Add after it", sheet.Add(d, "f", []byte("two")), api.ErrStop)
		d.Crash(len(whole))
		wantFiles(t, d, "f", file(some)+whole[:min(torn, len(whole))])
	}
}

// TestReadAndMendOfNoSheet: they return the error of the disk or of the first record, and leave the file as it is.
func TestReadAndMendOfNoSheet(t *testing.T) {
	for what, call := range map[string]func(*disk.Disk, string) (sheet.Sheet, api.Errno){"Read": sheet.Read, "Mend": sheet.Mend} {
		for p, want := range map[string]api.Errno{
			"":                                 api.ErrShort,
			head(some)[:5]:                     api.ErrShort,
			"\x02hi\x00\x00\x00\x00":           api.ErrForm,
			sealed("no title"):                 api.ErrForm,
			sealed("ana1") + sealed("one"):     api.ErrShort,
			"\x81\x80\x80\x01" + sealed("one"): api.ErrLong,
		} {
			d := with(t, wide, "f", p)
			d.Append("f", []byte("+"))
			d.Cut("f", len(p))
			acts := d.Acts()
			s, e := call(d, "f")
			wantNone(t, what, s, e, want)
			wantFiles(t, d, "f", p)
			if d.Acts() != acts {
				t.Errorf("%s: %d operations", what, d.Acts()-acts)
			}
		}
		d := with(t, wide, "f", file(some, "one"))
		for _, name := range append(badNames, "g", "f.new") {
			s, e := call(d, name)
			wantNone(t, what+" of none", s, e, api.ErrNone)
		}
		d.Arm(0, 0)
		d.Sync("f")
		for _, name := range []string{"f", "g", "F"} {
			s, e := call(d, name)
			wantNone(t, what+" after a stop", s, e, api.ErrStop)
			s, e = call(nil, name)
			wantNone(t, what+" of a nil disk", s, e, api.ErrStop)
		}
	}
}

// TestReadAndMendOfAWholeSheet: there is nothing to cut off, so no operation is done, and what was not durable is not yet.
func TestReadAndMendOfAWholeSheet(t *testing.T) {
	for _, records := range [][]string{nil, {""}, {"one", "", "two"}} {
		p := file(some, records...)
		d := with(t, wide, "f", p[:3])
		d.Append("f", []byte(p[3:]))
		acts := d.Acts()
		s, e := sheet.Read(d, "f")
		wantSheet(t, s, e, some, len(p), api.OK, records...)
		d.Arm(0, 0)
		s, e = sheet.Mend(d, "f")
		wantSheet(t, s, e, some, len(p), api.OK, records...)
		if d.Acts() != acts || d.Safe("f") != 3 || !d.On() {
			t.Errorf("%d operations, %d bytes are durable", d.Acts()-acts, d.Safe("f"))
		}
		wantFiles(t, d, "f", p)
	}
}

// TestReadAndMendOfATornSheet: Read leaves what Mend cuts off, for whatever reason and at whatever place the sheet ends.
func TestReadAndMendOfATornSheet(t *testing.T) {
	good, next := file(some, "one", ""), sealed("next")
	for tail, end := range map[string]api.Errno{
		"\x05a":                         api.ErrShort,
		"\x80":                          api.ErrShort,
		"\x80\x00":                      api.ErrForm,
		"\x02hi\x00\x00\x00\x00" + next: api.ErrForm,
		"\x81\x80\x80\x01" + next:       api.ErrLong,
		next[:1]:                        api.ErrShort,
		next[:5]:                        api.ErrShort,
		next[:len(next)-1]:              api.ErrShort,
	} {
		d := with(t, wide, "f", good[:9])
		d.Append("f", []byte(good[9:]+tail))
		acts := d.Acts()
		s, e := sheet.Read(d, "f")
		wantSheet(t, s, e, some, len(good), end, "one", "")
		wantFiles(t, d, "f", good+tail)
		if d.Acts() != acts {
			t.Errorf("Read: %d operations", d.Acts()-acts)
		}
		s, e = sheet.Mend(d, "f")
		wantSheet(t, s, e, some, len(good), api.OK, "one", "")
		wantFiles(t, d, "f", good)
		if d.Acts() != acts+1 || d.Safe("f") != len(good) {
			t.Errorf("Mend: %d operations, %d bytes are durable", d.Acts()-acts, d.Safe("f"))
		}
		wantError(t, "Add", sheet.Add(d, "f", []byte("next")), api.OK)
		s, e = sheet.Mend(d, "f")
		wantSheet(t, s, e, some, len(good+next), api.OK, "one", "", "next")
	}
}

// TestMendAtWhichTheDiskStops: the file is as it was.
func TestMendAtWhichTheDiskStops(t *testing.T) {
	p := file(some, "one") + "\x05a"
	d := with(t, wide, "f", p)
	d.Arm(0, 9)
	s, e := sheet.Mend(d, "f")
	wantNone(t, "Mend", s, e, api.ErrStop)
	d.Crash(0)
	wantFiles(t, d, "f", p)
}

func TestSwap(t *testing.T) {
	for _, old := range []string{"", file(some), file(sheet.Title{Kind: 'o'}, "old", "older"), "no sheet"} {
		for _, left := range []string{"", "left", file(some, "left")} {
			for _, records := range [][]string{nil, {"new"}, {"", "new", "", strings.Repeat("r", 1000), "ana1"}} {
				d := with(t, wide, "f", old, "f.new", left, "other", "o")
				for range 2 { // of which the second one finds no file to remove
					acts := d.Acts()
					wantError(t, "Swap", sheet.Swap(d, "f", some, lists(records...)...), api.OK)
					p := file(some, records...)
					wantFiles(t, d, "f", p, "other", "o")
					if d.Acts() != acts+4 || d.Safe("f") != len(p) {
						t.Errorf("%d operations, %d bytes are durable", d.Acts()-acts, d.Safe("f"))
					}
				}
			}
		}
	}
	d := with(t, wide)
	wantError(t, "Swap of none", sheet.Swap(d, "f", some, nil, []byte("one")), api.OK)
	wantError(t, "Swap without records", sheet.Swap(d, "g", some), api.OK)
	wantFiles(t, d, "f", file(some, "", "one"), "g", file(some))
}

func TestSwapOfTheLongest(t *testing.T) {
	old, long := file(some, "old"), []byte(strings.Repeat("l", sheet.Most+1))
	for _, l := range [][][]byte{{long}, {nil, long}, {long, nil}, {long[1:], long, long[1:]}} {
		d := with(t, wide, "f", old, "f.new", "left")
		acts := d.Acts()
		wantError(t, "Swap", sheet.Swap(d, "f", some, l...), api.ErrLong)
		if d.Acts() != acts+1 {
			t.Errorf("%d operations", d.Acts()-acts)
		}
		wantFiles(t, d, "f", old)
		wantError(t, "Swap on a nil disk", sheet.Swap(nil, "f", some, l...), api.ErrStop)
	}
	d := with(t, wide, "f", old)
	wantError(t, "Swap", sheet.Swap(d, "f", some, long[1:], nil, long[1:]), api.OK)
	wantFiles(t, d, "f", file(some, string(long[1:]), "", string(long[1:])))
}

// TestSwapWithoutRoom: the old file needs its room, too, but what was left beside it does not.
func TestSwapWithoutRoom(t *testing.T) {
	old, want := file(some, "old"), file(some, "one", "two")
	for _, left := range []string{"", "left", strings.Repeat("l", 100)} {
		d := with(t, len(want)-len(left)-1, "f", old, "f.new", left)
		wantError(t, "Swap without room", sheet.Swap(d, "f", some, lists("one", "two")...), api.ErrFull)
		wantFiles(t, d, "f", old)
		d.Widen(len(old) + len(want))
		wantError(t, "Swap", sheet.Swap(d, "f", some, lists("one", "two")...), api.OK)
		wantFiles(t, d, "f", want)
	}
}

// TestSwapOfABadName: nothing is written. A name that is valid, but leaves no room for what follows it, is as bad.
func TestSwapOfABadName(t *testing.T) {
	for n := range len(".new") {
		name := strings.Repeat("x", api.MaxFile-n)
		d := with(t, wide, name, "old")
		wantError(t, "Swap", sheet.Swap(d, name, some, []byte("one")), api.ErrArg)
		wantFiles(t, d, name, "old")
	}
	for _, name := range badNames {
		d := with(t, wide, "f", "old")
		wantError(t, "Swap", sheet.Swap(d, name, some, []byte("one")), api.ErrArg)
		wantFiles(t, d, "f", "old")
	}
	longest := strings.Repeat("x", api.MaxFile-len(".new"))
	d := with(t, wide)
	wantError(t, "Swap", sheet.Swap(d, longest, some, []byte("one")), api.OK)
	wantFiles(t, d, longest, file(some, "one"))
}

// TestSwapAtWhichTheDiskStops: whichever operation it is, and whatever a crash keeps, there is the old file or the new
// one, and the next Swap does what this one would have done.
func TestSwapAtWhichTheDiskStops(t *testing.T) {
	want := file(some, "one", "two")
	for _, old := range []string{"none", file(some, "old")} {
		for stop := range 5 {
			for torn := range len(want) + 2 {
				for _, keep := range []int{-1, 0, torn, len(want)} {
					d := with(t, wide, "f.new", "left")
					if old != "none" {
						d.Append("f", []byte(old))
						d.Sync("f")
					}
					d.Arm(stop, torn)
					e := sheet.Swap(d, "f", some, lists("one", "two")...)
					d.Crash(keep)
					p, f := d.Read("f")
					switch {
					case stop == 4:
						wantError(t, "Swap", e, api.OK)
						wantFiles(t, d, "f", want)
					case e != api.ErrStop || old == "none" && f != api.ErrNone || old != "none" && string(p) != old:
						t.Errorf("stop %d, torn %d, keep %d: %d, %q, %d", stop, torn, keep, e, p, f)
					}
					wantError(t, "Swap again", sheet.Swap(d, "f", some, lists("one", "two")...), api.OK)
					wantFiles(t, d, "f", want)
				}
			}
		}
	}
}

// TestNilDisk is P1, too.
func TestNilDisk(t *testing.T) {
	wantError(t, "Begin", sheet.Begin(nil, "f", some), api.ErrStop)
	wantError(t, "Add", sheet.Add(nil, "f", nil), api.ErrStop)
	wantError(t, "Swap", sheet.Swap(nil, "f", some), api.ErrStop)
	wantError(t, "Swap", sheet.Swap(nil, "f", some, nil, []byte("one")), api.ErrStop)
	s, e := sheet.Read(nil, "f")
	wantNone(t, "Read", s, e, api.ErrStop)
	s, e = sheet.Mend(nil, "f")
	wantNone(t, "Mend", s, e, api.ErrStop)
}

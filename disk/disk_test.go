package disk_test

import (
	"bytes"
	"math"
	"slices"
	"strings"
	"testing"

	"anabranch/api"
	"anabranch/disk"
)

// wide is room for everything that a test appends.
const wide = 1 << 20

// with returns a disk with files of these contents, durable, given as name, contents, name, contents ..
func with(t *testing.T, room int, files ...string) *disk.Disk {
	t.Helper()
	d := disk.New(room)
	for i := 0; i < len(files); i += 2 {
		if e := d.Append(files[i], []byte(files[i+1])); e != api.OK {
			t.Fatalf("Append(%s, %s): %d", files[i], files[i+1], e)
		}
		if e := d.Sync(files[i]); e != api.OK {
			t.Fatalf("Sync(%s): %d", files[i], e)
		}
	}
	return d
}

// wantFiles checks that a disk that has not stopped has exactly these files.
func wantFiles(t *testing.T, d *disk.Disk, files ...string) {
	t.Helper()
	var names []string
	total := 0
	for i := 0; i < len(files); i += 2 {
		names = append(names, files[i])
		total += len(files[i+1])
		if p, e := d.Read(files[i]); e != api.OK || string(p) != files[i+1] {
			t.Errorf("Read(%s) = %q, %d, want %q", files[i], p, e, files[i+1])
		}
	}
	if got := d.Names(""); !slices.Equal(got, names) {
		t.Errorf("Names = %q, want %q", got, names)
	}
	if _, n := d.Room(); n != total {
		t.Errorf("the files have %d bytes, want %d", n, total)
	}
}

func wantError(t *testing.T, what string, got, want api.Errno) {
	t.Helper()
	if got != want {
		t.Errorf("%s: %d, want %d", what, got, want)
	}
}

func wantSafe(t *testing.T, d *disk.Disk, name string, want int) {
	t.Helper()
	if got := d.Safe(name); got != want {
		t.Errorf("Safe(%s) = %d, want %d", name, got, want)
	}
}

// The tests of P4.1.

func TestNamed(t *testing.T) {
	for _, s := range []string{
		"a", "z", "0", "9", ".", "-", "..", "feed-3-00000000000000ff", "a.new", "the-quick.0123456789",
		"abcdefghijklmnopqrstuvwxyz0123456789.-",
		strings.Repeat("a", api.MaxFile),
	} {
		if !disk.Named(s) {
			t.Errorf("Named(%q) is false", s)
		}
	}
	for _, s := range []string{
		"", "A", "Z", "a b", " a", "a ", "a/b", "a_b", "a\x00", "a\n", "aB",
		"é", "aé", "\uff41", "\uff11", "\u0663", "a\u0301", "\xff", "a\xffb", "\u0161", "\U00010061",
		strings.Repeat("a", api.MaxFile+1),
		strings.Repeat("é", api.MaxFile/2),
		strings.Repeat("a", api.MaxFile-1) + "A",
		strings.Repeat("a", api.MaxFile-2) + "é",
	} {
		if disk.Named(s) {
			t.Errorf("Named(%q) is true", s)
		}
	}
}

func TestNamedOfEveryCharacter(t *testing.T) {
	const valid = "abcdefghijklmnopqrstuvwxyz0123456789.-"
	for r := range rune(0x500) {
		want := strings.ContainsRune(valid, r)
		for _, s := range []string{string(r), "a" + string(r), string(r) + "a"} {
			if disk.Named(s) != want {
				t.Errorf("Named(%q) is %v", s, !want)
			}
		}
	}
	for b := range 256 {
		s := string([]byte{byte(b)})
		if want := strings.Contains(valid, s); disk.Named(s) != want {
			t.Errorf("Named(%q) is %v", s, !want)
		}
	}
}

// TestActs: every operation counts, whatever it returns, except ErrArg for a name.
func TestActs(t *testing.T) {
	d := disk.New(5)
	for i, c := range []struct {
		what   string
		do     func() api.Errno
		want   api.Errno
		counts int
	}{
		{"Append", func() api.Errno { return d.Append("a", []byte("abc")) }, api.OK, 1},
		{"Append of nothing", func() api.Errno { return d.Append("a", nil) }, api.OK, 1},
		{"Append to a bad name", func() api.Errno { return d.Append("A", []byte("abc")) }, api.ErrArg, 0},
		{"Append to no name", func() api.Errno { return d.Append("", nil) }, api.ErrArg, 0},
		{"Append of too much", func() api.Errno { return d.Append("b", []byte("abc")) }, api.ErrFull, 1},
		{"Sync", func() api.Errno { return d.Sync("a") }, api.OK, 1},
		{"Sync of none", func() api.Errno { return d.Sync("b") }, api.ErrNone, 1},
		{"Sync of a bad name", func() api.Errno { return d.Sync("A") }, api.ErrNone, 1},
		{"Cut of none", func() api.Errno { return d.Cut("b", 0) }, api.ErrNone, 1},
		{"Cut of a bad name", func() api.Errno { return d.Cut("A", -1) }, api.ErrNone, 1},
		{"Cut below 0", func() api.Errno { return d.Cut("a", -1) }, api.ErrArg, 1},
		{"Cut too far", func() api.Errno { return d.Cut("a", 4) }, api.ErrArg, 1},
		{"Cut", func() api.Errno { return d.Cut("a", 2) }, api.OK, 1},
		{"Move to a bad name", func() api.Errno { return d.Move("a", "A") }, api.ErrArg, 0},
		{"Move of none to a bad name", func() api.Errno { return d.Move("b", "A") }, api.ErrArg, 0},
		{"Move of none", func() api.Errno { return d.Move("b", "c") }, api.ErrNone, 1},
		{"Move of a bad name", func() api.Errno { return d.Move("A", "c") }, api.ErrNone, 1},
		{"Move", func() api.Errno { return d.Move("a", "c") }, api.OK, 1},
		{"Remove of none", func() api.Errno { return d.Remove("a") }, api.ErrNone, 1},
		{"Remove of a bad name", func() api.Errno { return d.Remove("A") }, api.ErrNone, 1},
		{"Remove", func() api.Errno { return d.Remove("c") }, api.OK, 1},
	} {
		before := d.Acts()
		wantError(t, c.what, c.do(), c.want)
		if n := d.Acts() - before; n != c.counts {
			t.Errorf("%d, %s: counts %d", i, c.what, n)
		}
	}
	if n := d.Acts(); n != 17 {
		t.Errorf("Acts = %d", n)
	}
}

// TestWhatIsNoOperation: nothing else counts, or lets an armed disk stop.
func TestWhatIsNoOperation(t *testing.T) {
	d := with(t, wide, "a", "abc")
	before := d.Acts()
	d.Arm(0, 0)
	d.Read("a")
	d.Read("b")
	d.Names("")
	d.Safe("a")
	d.Acts()
	d.Room()
	d.Widen(wide)
	if !d.On() || d.Acts() != before {
		t.Errorf("On %v, Acts %d, before %d", d.On(), d.Acts(), before)
	}
	d.Crash(0)
	if d.Acts() != before {
		t.Errorf("Acts = %d after a crash, before %d", d.Acts(), before)
	}
}

func TestArm(t *testing.T) {
	for _, acts := range []int{0, 1, 2, 7} {
		d := with(t, wide, "a", "abc")
		d.Arm(acts, 0)
		before := d.Acts()
		for i := range acts {
			wantError(t, "Sync before it stops", d.Sync("a"), api.OK)
			if !d.On() {
				t.Errorf("armed %d: it has stopped at operation %d", acts, i)
			}
		}
		wantError(t, "Append to a bad name", d.Append("A", nil), api.ErrArg)
		wantError(t, "Move to a bad name", d.Move("a", "A"), api.ErrArg)
		if !d.On() {
			t.Errorf("armed %d: it has stopped at what does not count", acts)
		}
		wantError(t, "Sync at which it stops", d.Sync("a"), api.ErrStop)
		if d.On() || d.Acts() != before+acts+1 {
			t.Errorf("armed %d: On %v, %d operations", acts, d.On(), d.Acts()-before)
		}
		wantError(t, "Sync after it", d.Sync("a"), api.ErrStop)
		if d.Acts() != before+acts+1 {
			t.Errorf("armed %d: an operation counts after the stop", acts)
		}
	}
}

// TestArmCountsErrors: an operation with an error is one of the further ones.
func TestArmCountsErrors(t *testing.T) {
	d := with(t, 3, "a", "abc")
	d.Arm(4, 0)
	wantError(t, "Append", d.Append("b", []byte("d")), api.ErrFull)
	wantError(t, "Sync", d.Sync("b"), api.ErrNone)
	wantError(t, "Cut", d.Cut("a", 9), api.ErrArg)
	wantError(t, "Move", d.Move("b", "c"), api.ErrNone)
	wantError(t, "Remove", d.Remove("b"), api.ErrStop)
}

func TestArmWithoutAStop(t *testing.T) {
	for _, acts := range []int{-1, -2, math.MinInt, 50, math.MaxInt} {
		d := with(t, wide, "a", "abc")
		d.Arm(acts, 1)
		for range 50 {
			wantError(t, "Sync", d.Sync("a"), api.OK)
		}
		if !d.On() {
			t.Errorf("armed %d: it has stopped", acts)
		}
	}
	d := with(t, wide)
	for range 50 {
		wantError(t, "Append to a disk that was never armed", d.Append("a", []byte("a")), api.OK)
	}
}

// TestArmAgain: the last Arm is the one that holds.
func TestArmAgain(t *testing.T) {
	d := with(t, wide, "a", "abc")
	d.Arm(0, 2)
	d.Arm(-1, 0)
	wantError(t, "Sync", d.Sync("a"), api.OK)
	d.Arm(5, 2)
	d.Arm(1, 1)
	wantError(t, "Sync", d.Sync("a"), api.OK)
	wantError(t, "Append", d.Append("a", []byte("de")), api.ErrStop)
	d.Arm(-1, 0)
	if d.On() {
		t.Error("Arm restarts the disk")
	}
	wantError(t, "Sync", d.Sync("a"), api.ErrStop)
	d.Crash(9)
	wantFiles(t, d, "a", "abcd")
}

// TestTheLastOperation: whichever it is, and whatever it would return, it returns ErrStop and has no effect.
func TestTheLastOperation(t *testing.T) {
	for what, do := range map[string]func(d *disk.Disk) api.Errno{
		"Append":             func(d *disk.Disk) api.Errno { return d.Append("a", []byte("x")) },
		"Append to a new":    func(d *disk.Disk) api.Errno { return d.Append("c", []byte("x")) },
		"Append of nothing":  func(d *disk.Disk) api.Errno { return d.Append("c", nil) },
		"Append of too much": func(d *disk.Disk) api.Errno { return d.Append("a", make([]byte, 99)) },
		"Sync":               func(d *disk.Disk) api.Errno { return d.Sync("b") },
		"Sync of none":       func(d *disk.Disk) api.Errno { return d.Sync("c") },
		"Move":               func(d *disk.Disk) api.Errno { return d.Move("a", "b") },
		"Move to a new":      func(d *disk.Disk) api.Errno { return d.Move("a", "c") },
		"Move of none":       func(d *disk.Disk) api.Errno { return d.Move("c", "a") },
		"Cut":                func(d *disk.Disk) api.Errno { return d.Cut("a", 1) },
		"Cut of none":        func(d *disk.Disk) api.Errno { return d.Cut("c", 1) },
		"Cut too far":        func(d *disk.Disk) api.Errno { return d.Cut("a", 9) },
		"Remove":             func(d *disk.Disk) api.Errno { return d.Remove("a") },
		"Remove of none":     func(d *disk.Disk) api.Errno { return d.Remove("c") },
	} {
		for _, torn := range []int{0, -1, math.MinInt} {
			d := with(t, 20, "a", "abc", "b", "de")
			d.Append("b", []byte("fg"))
			d.Arm(0, torn)
			wantError(t, what, do(d), api.ErrStop)
			wantSafe(t, d, "b", 2)
			if _, n := d.Room(); n != 7 || d.On() {
				t.Errorf("%s: %d bytes, On %v", what, n, d.On())
			}
			d.Crash(9)
			wantFiles(t, d, "a", "abc", "b", "defg")
		}
	}
}

// TestTornIsOfAppendAlone: other operations at which the disk stops have no effect, whatever is torn.
func TestTornIsOfAppendAlone(t *testing.T) {
	for what, do := range map[string]func(d *disk.Disk) api.Errno{
		"Sync":   func(d *disk.Disk) api.Errno { return d.Sync("a") },
		"Move":   func(d *disk.Disk) api.Errno { return d.Move("a", "b") },
		"Cut":    func(d *disk.Disk) api.Errno { return d.Cut("a", 1) },
		"Remove": func(d *disk.Disk) api.Errno { return d.Remove("a") },
	} {
		d := with(t, 20, "a", "abc")
		d.Arm(0, 2)
		wantError(t, what, do(d), api.ErrStop)
		d.Crash(9)
		wantFiles(t, d, "a", "abc")
	}
}

func TestTornAppend(t *testing.T) {
	for _, c := range []struct {
		name  string
		p     string
		torn  int
		room  int
		files []string
	}{
		{"a", "xyz", 0, 20, []string{"a", "abc"}},
		{"a", "xyz", 1, 20, []string{"a", "abcx"}},
		{"a", "xyz", 2, 20, []string{"a", "abcxy"}},
		{"a", "xyz", 3, 20, []string{"a", "abcxyz"}},
		{"a", "xyz", 4, 20, []string{"a", "abcxyz"}},
		{"a", "xyz", math.MaxInt, 20, []string{"a", "abcxyz"}},
		{"a", "xyz", -1, 20, []string{"a", "abc"}},
		{"a", "xyz", 2, 5, []string{"a", "abcxy"}},
		{"a", "xyz", 2, 4, []string{"a", "abc"}},
		{"a", "xyz", 9, 6, []string{"a", "abcxyz"}},
		{"a", "xyz", 9, 5, []string{"a", "abc"}},
		{"a", "", 2, 3, []string{"a", "abc"}},
		{"b", "xyz", 0, 20, []string{"a", "abc"}},
		{"b", "xyz", -1, 20, []string{"a", "abc"}},
		{"b", "xyz", 1, 20, []string{"a", "abc", "b", "x"}},
		{"b", "xyz", 9, 20, []string{"a", "abc", "b", "xyz"}},
		{"b", "xyz", 1, 4, []string{"a", "abc", "b", "x"}},
		{"b", "xyz", 1, 3, []string{"a", "abc"}},
		{"b", "xyz", 2, 4, []string{"a", "abc"}},
		{"b", "", 0, 20, []string{"a", "abc"}},
		{"b", "", 1, 3, []string{"a", "abc", "b", ""}},
		{"b", "", 1, 2, []string{"a", "abc"}},
	} {
		d := with(t, 20, "a", "abc")
		d.Widen(c.room)
		d.Arm(0, c.torn)
		wantError(t, "Append", d.Append(c.name, []byte(c.p)), api.ErrStop)
		wantError(t, "Append after it", d.Append(c.name, []byte(c.p)), api.ErrStop)
		wantSafe(t, d, "a", 3)
		wantSafe(t, d, "b", 0)
		d.Crash(9)
		if wantFiles(t, d, c.files...); t.Failed() {
			t.Fatalf("%v", c)
		}
	}
}

// TestTornBytesAreNotDurable: a crash may lose them.
func TestTornBytesAreNotDurable(t *testing.T) {
	d := with(t, 20, "a", "abc")
	d.Arm(0, 2)
	d.Append("a", []byte("xyz"))
	d.Crash(1)
	wantFiles(t, d, "a", "abcx")
	d.Arm(0, 2)
	d.Append("b", []byte("xyz"))
	d.Crash(0)
	wantFiles(t, d, "a", "abcx", "b", "")
}

// TestStopped: a disk that has stopped does nothing, tells nothing of its files but how much is there, and knows bad names.
func TestStopped(t *testing.T) {
	d := with(t, 20, "a", "abc")
	d.Append("a", []byte("de"))
	d.Arm(0, 0)
	d.Sync("a")
	acts := d.Acts()
	wantError(t, "Append", d.Append("a", []byte("x")), api.ErrStop)
	wantError(t, "Append of too much", d.Append("a", make([]byte, 99)), api.ErrStop)
	wantError(t, "Append to a bad name", d.Append("A", []byte("x")), api.ErrArg)
	wantError(t, "Sync", d.Sync("a"), api.ErrStop)
	wantError(t, "Sync of none", d.Sync("b"), api.ErrStop)
	wantError(t, "Move", d.Move("a", "b"), api.ErrStop)
	wantError(t, "Move of none", d.Move("b", "a"), api.ErrStop)
	wantError(t, "Move to a bad name", d.Move("a", "A"), api.ErrArg)
	wantError(t, "Cut", d.Cut("a", 1), api.ErrStop)
	wantError(t, "Cut too far", d.Cut("a", 99), api.ErrStop)
	wantError(t, "Cut of none", d.Cut("b", -1), api.ErrStop)
	wantError(t, "Remove", d.Remove("a"), api.ErrStop)
	wantError(t, "Remove of none", d.Remove("b"), api.ErrStop)
	for _, name := range []string{"a", "b", "A"} {
		if p, e := d.Read(name); len(p) != 0 || e != api.ErrStop {
			t.Errorf("Read(%s) = %q, %d", name, p, e)
		}
	}
	if l := d.Names(""); len(l) != 0 || d.On() || d.Acts() != acts {
		t.Errorf("Names %q, On %v, Acts %d, before %d", l, d.On(), d.Acts(), acts)
	}
	if room, n := d.Room(); room != 20 || n != 5 {
		t.Errorf("Room = %d, %d", room, n)
	}
	wantSafe(t, d, "a", 3)
	wantSafe(t, d, "b", 0)
	d.Widen(30)
	if room, n := d.Room(); room != 30 || n != 5 {
		t.Errorf("Room = %d, %d", room, n)
	}
	d.Crash(9)
	wantFiles(t, d, "a", "abcde")
}

// TestNilDisk is P1, too.
func TestNilDisk(t *testing.T) {
	var d *disk.Disk
	d.Arm(0, 3)
	d.Crash(1)
	d.Widen(9)
	wantError(t, "Append", d.Append("a", []byte("x")), api.ErrStop)
	wantError(t, "Append to a bad name", d.Append("", nil), api.ErrArg)
	wantError(t, "Sync", d.Sync("a"), api.ErrStop)
	wantError(t, "Move", d.Move("a", "b"), api.ErrStop)
	wantError(t, "Move to a bad name", d.Move("a", "B"), api.ErrArg)
	wantError(t, "Cut", d.Cut("a", -1), api.ErrStop)
	wantError(t, "Remove", d.Remove("a"), api.ErrStop)
	if p, e := d.Read("a"); len(p) != 0 || e != api.ErrStop {
		t.Errorf("Read = %q, %d", p, e)
	}
	if room, n := d.Room(); room != 0 || n != 0 {
		t.Errorf("Room = %d, %d", room, n)
	}
	if d.On() || d.Acts() != 0 || len(d.Names("")) != 0 || d.Safe("a") != 0 {
		t.Errorf("On %v, Acts %d, Names %q, Safe %d", d.On(), d.Acts(), d.Names(""), d.Safe("a"))
	}
}

// The tests of P4.2.

func TestNew(t *testing.T) {
	for _, room := range []int{math.MinInt, -1, 0, 5, math.MaxInt} {
		d := disk.New(room)
		if r, n := d.Room(); r != room || n != 0 {
			t.Errorf("Room = %d, %d, want %d, 0", r, n, room)
		}
		if !d.On() || d.Acts() != 0 {
			t.Errorf("On %v, Acts %d", d.On(), d.Acts())
		}
		wantFiles(t, d)
		want := api.OK
		if room < 0 {
			want = api.ErrFull
		}
		wantError(t, "Append of nothing", d.Append("a", nil), want)
	}
}

func TestAppend(t *testing.T) {
	d := disk.New(wide)
	wantError(t, "Append", d.Append("a", []byte("ab")), api.OK)
	wantError(t, "Append", d.Append("b", nil), api.OK)
	wantError(t, "Append", d.Append("a", []byte("cde")), api.OK)
	wantError(t, "Append", d.Append("a", []byte{}), api.OK)
	wantError(t, "Append", d.Append(strings.Repeat("x", api.MaxFile), []byte("f")), api.OK)
	wantFiles(t, d, "a", "abcde", "b", "", strings.Repeat("x", api.MaxFile), "f")
	wantSafe(t, d, "a", 0)
	for _, name := range []string{"", "A", "a/b", "é", strings.Repeat("x", api.MaxFile+1)} {
		wantError(t, "Append to "+name, d.Append(name, []byte("g")), api.ErrArg)
	}
	wantFiles(t, d, "a", "abcde", "b", "", strings.Repeat("x", api.MaxFile), "f")
}

func TestAppendWithoutRoom(t *testing.T) {
	d := with(t, 10, "a", "abc", "b", "de")
	wantError(t, "Append of too much", d.Append("a", make([]byte, 6)), api.ErrFull)
	wantError(t, "Append of too much to a new file", d.Append("c", make([]byte, 6)), api.ErrFull)
	wantError(t, "Append of too much to a bad name", d.Append("C", make([]byte, 6)), api.ErrArg)
	wantFiles(t, d, "a", "abc", "b", "de")
	wantError(t, "Append up to the room", d.Append("c", []byte("fghij")), api.OK)
	wantError(t, "Append of a byte more", d.Append("a", []byte("k")), api.ErrFull)
	wantError(t, "Append of nothing", d.Append("d", nil), api.OK)
	wantFiles(t, d, "a", "abc", "b", "de", "c", "fghij", "d", "")
	wantSafe(t, d, "a", 3)
}

// TestRoomIsFreed: what is removed, replaced, cut off or lost gives its room back, and nothing else does.
func TestRoomIsFreed(t *testing.T) {
	for what, do := range map[string]func(d *disk.Disk){
		"Remove":      func(d *disk.Disk) { d.Remove("a") },
		"Cut":         func(d *disk.Disk) { d.Cut("a", 1); d.Cut("b", 2) },
		"Move":        func(d *disk.Disk) { d.Move("b", "a") },
		"Move beyond": func(d *disk.Disk) { d.Move("b", "c"); d.Move("c", "a") },
		"Crash":       func(d *disk.Disk) { d.Crash(1) },
	} {
		d := disk.New(6)
		d.Append("a", []byte("abc"))
		d.Append("b", []byte("def"))
		d.Cut("a", 3)
		do(d)
		_, n := d.Room()
		if what == "Crash" && n != 4 || what != "Crash" && n != 3 {
			t.Errorf("%s: %d bytes", what, n)
		}
		wantError(t, what+", Append of too much", d.Append("n", make([]byte, 7-n)), api.ErrFull)
		wantError(t, what+", Append up to the room", d.Append("n", make([]byte, 6-n)), api.OK)
	}
	d := with(t, 3, "a", "abc")
	d.Move("a", "a")
	d.Move("a", "b")
	d.Sync("b")
	d.Move("a", "b")
	wantError(t, "Append", d.Append("b", []byte("d")), api.ErrFull)
}

func TestSync(t *testing.T) {
	d := disk.New(wide)
	d.Append("a", []byte("abc"))
	d.Append("b", []byte("de"))
	wantError(t, "Sync", d.Sync("a"), api.OK)
	wantSafe(t, d, "a", 3)
	wantSafe(t, d, "b", 0)
	d.Append("a", []byte("xy"))
	wantSafe(t, d, "a", 3)
	wantError(t, "Sync", d.Sync("a"), api.OK)
	wantError(t, "Sync", d.Sync("a"), api.OK)
	wantSafe(t, d, "a", 5)
	wantError(t, "Sync of none", d.Sync("c"), api.ErrNone)
	wantError(t, "Sync of no name", d.Sync(""), api.ErrNone)
	wantFiles(t, d, "a", "abcxy", "b", "de")
	d.Crash(0)
	wantFiles(t, d, "a", "abcxy", "b", "")
}

func TestMove(t *testing.T) {
	d := with(t, wide, "a", "abc", "b", "de", "c", "f")
	d.Append("a", []byte("gh"))
	wantError(t, "Move to a new name", d.Move("a", "x"), api.OK)
	wantFiles(t, d, "b", "de", "c", "f", "x", "abcgh")
	wantSafe(t, d, "x", 3)
	wantSafe(t, d, "a", 0)
	wantError(t, "Move in place of a file", d.Move("x", "c"), api.OK)
	wantFiles(t, d, "b", "de", "c", "abcgh")
	wantSafe(t, d, "c", 3)
	wantError(t, "Move of none", d.Move("x", "b"), api.ErrNone)
	wantError(t, "Move of none to itself", d.Move("x", "x"), api.ErrNone)
	wantError(t, "Move to a bad name", d.Move("b", "B"), api.ErrArg)
	wantError(t, "Move to no name", d.Move("b", ""), api.ErrArg)
	wantError(t, "Move of none to a bad name", d.Move("x", "a b"), api.ErrArg)
	wantError(t, "Move to a long name", d.Move("b", strings.Repeat("x", api.MaxFile+1)), api.ErrArg)
	wantFiles(t, d, "b", "de", "c", "abcgh")
	wantError(t, "Move to the longest name", d.Move("b", strings.Repeat("x", api.MaxFile)), api.OK)
	wantFiles(t, d, "c", "abcgh", strings.Repeat("x", api.MaxFile), "de")
}

// TestMoveToItself: the file stays, with what of it is durable.
func TestMoveToItself(t *testing.T) {
	d := with(t, wide, "a", "abc")
	d.Append("a", []byte("de"))
	wantError(t, "Move", d.Move("a", "a"), api.OK)
	wantFiles(t, d, "a", "abcde")
	wantSafe(t, d, "a", 3)
}

// TestMovedFilesAreApart: what was moved, and a new file of its old name, have nothing in common.
func TestMovedFilesAreApart(t *testing.T) {
	d := with(t, wide, "a", "abc")
	d.Move("a", "b")
	d.Append("a", []byte("x"))
	d.Append("b", []byte("y"))
	wantFiles(t, d, "a", "x", "b", "abcy")
	wantSafe(t, d, "a", 0)
	d.Remove("a")
	d.Append("a", []byte("z"))
	wantFiles(t, d, "a", "z", "b", "abcy")
	d.Crash(0)
	wantFiles(t, d, "a", "", "b", "abc")
}

func TestCut(t *testing.T) {
	for n, want := range []string{"", "a", "ab", "abc", "abcd", "abcde"} {
		d := with(t, wide, "a", "abc", "b", "xyz")
		d.Append("a", []byte("de"))
		wantError(t, "Cut", d.Cut("a", n), api.OK)
		wantFiles(t, d, "a", want, "b", "xyz")
		wantSafe(t, d, "a", n)
		d.Append("a", []byte("++"))
		wantFiles(t, d, "a", want+"++", "b", "xyz")
		wantSafe(t, d, "a", n)
		d.Crash(0)
		wantFiles(t, d, "a", want, "b", "xyz")
	}
}

func TestCutRefuses(t *testing.T) {
	d := with(t, wide, "a", "abc")
	d.Append("a", []byte("de"))
	for _, n := range []int{math.MinInt, -1, 6, math.MaxInt} {
		wantError(t, "Cut", d.Cut("a", n), api.ErrArg)
		wantError(t, "Cut of none", d.Cut("b", n), api.ErrNone)
	}
	wantError(t, "Cut of none", d.Cut("b", 0), api.ErrNone)
	wantError(t, "Cut of no name", d.Cut("", 0), api.ErrNone)
	wantFiles(t, d, "a", "abcde")
	wantSafe(t, d, "a", 3)
}

func TestRemove(t *testing.T) {
	d := with(t, wide, "a", "abc", "b", "")
	d.Append("a", []byte("de"))
	wantError(t, "Remove", d.Remove("a"), api.OK)
	wantFiles(t, d, "b", "")
	wantSafe(t, d, "a", 0)
	if p, e := d.Read("a"); len(p) != 0 || e != api.ErrNone {
		t.Errorf("Read = %q, %d", p, e)
	}
	wantError(t, "Remove again", d.Remove("a"), api.ErrNone)
	wantError(t, "Remove of no name", d.Remove(""), api.ErrNone)
	wantError(t, "Remove of an empty file", d.Remove("b"), api.OK)
	wantFiles(t, d)
	d.Crash(9)
	wantFiles(t, d)
}

// The tests of P4.3.

func TestRead(t *testing.T) {
	d := with(t, wide, "a", "abc", "b", "")
	d.Append("a", []byte("de"))
	wantFiles(t, d, "a", "abcde", "b", "")
	for _, name := range []string{"c", "", "A", "ab"} {
		if p, e := d.Read(name); len(p) != 0 || e != api.ErrNone {
			t.Errorf("Read(%q) = %q, %d", name, p, e)
		}
	}
}

func TestNames(t *testing.T) {
	d := disk.New(wide)
	all := []string{"-", ".", "0", "9", "a", "a-", "a.", "a.new", "a0", "aa", "b", "feed-1-", "feed-10-", "feed-2-", "z"}
	for i := range all {
		d.Append(all[(i*7+3)%len(all)], nil)
	}
	for begin, want := range map[string][]string{
		"":        all,
		"a":       {"a", "a-", "a.", "a.new", "a0", "aa"},
		"a.":      {"a.", "a.new"},
		"a.new":   {"a.new"},
		"a.new1":  nil,
		"feed-":   {"feed-1-", "feed-10-", "feed-2-"},
		"feed-1":  {"feed-1-", "feed-10-"},
		"feed-1-": {"feed-1-"},
		"c":       nil,
		"new":     nil,
		"-1-":     nil,
		"A":       nil,
		"\xff":    nil,
	} {
		for range 5 {
			if got := d.Names(begin); !slices.Equal(got, want) {
				t.Fatalf("Names(%q) = %q, want %q", begin, got, want)
			}
		}
	}
}

func TestCrash(t *testing.T) {
	for _, c := range []struct {
		keep int
		a, b string
	}{
		{math.MinInt, "abc", ""},
		{-1, "abc", ""},
		{0, "abc", ""},
		{1, "abcd", "x"},
		{2, "abcde", "xy"},
		{3, "abcde", "xyz"},
		{4, "abcde", "xyz"},
		{math.MaxInt, "abcde", "xyz"},
	} {
		for _, stop := range []bool{false, true} {
			d := with(t, wide, "a", "abc", "c", "whole")
			d.Append("a", []byte("de"))
			d.Append("b", []byte("xyz"))
			d.Arm(0, 1)
			if stop {
				d.Sync("a")
			}
			d.Crash(c.keep)
			if !d.On() {
				t.Error("it has stopped")
			}
			wantFiles(t, d, "a", c.a, "b", c.b, "c", "whole")
			wantSafe(t, d, "a", len(c.a))
			wantSafe(t, d, "b", len(c.b))
			wantSafe(t, d, "c", 5)
			wantError(t, "Sync after a crash", d.Sync("a"), api.OK)
			wantError(t, "Append after a crash", d.Append("b", []byte("++")), api.OK)
			wantFiles(t, d, "a", c.a, "b", c.b+"++", "c", "whole")
			d.Crash(1)
			wantFiles(t, d, "a", c.a, "b", c.b+"+", "c", "whole")
		}
	}
}

func TestWiden(t *testing.T) {
	d := with(t, 3, "a", "abc")
	wantError(t, "Append", d.Append("a", []byte("d")), api.ErrFull)
	d.Widen(4)
	wantError(t, "Append", d.Append("a", []byte("d")), api.OK)
	d.Widen(2)
	if room, n := d.Room(); room != 2 || n != 4 {
		t.Errorf("Room = %d, %d", room, n)
	}
	wantError(t, "Append of nothing", d.Append("a", nil), api.ErrFull)
	wantError(t, "Append of nothing to a new file", d.Append("b", nil), api.ErrFull)
	wantError(t, "Sync", d.Sync("a"), api.OK)
	wantFiles(t, d, "a", "abcd")
	d.Cut("a", 1)
	wantError(t, "Append", d.Append("a", []byte("x")), api.OK)
	d.Widen(-5)
	wantError(t, "Append of nothing", d.Append("a", nil), api.ErrFull)
	d.Crash(1)
	if room, n := d.Room(); room != -5 || n != 2 {
		t.Errorf("Room = %d, %d", room, n)
	}
	wantFiles(t, d, "a", "ax")
}

// TestMemory is the rule on memory: arguments stay as they are, a caller may append to what was returned, and what was
// read remains.
func TestMemory(t *testing.T) {
	d := disk.New(wide)
	whole := []byte("abcdef")
	d.Append("a", whole[:3])
	d.Append("a", nil)
	d.Append("a", []byte("xyz"))
	if string(whole) != "abcdef" {
		t.Errorf("the argument became %q", whole)
	}
	read, _ := d.Read("a")
	more := append(read, '+')
	d.Append("a", []byte("x"))
	if string(more) != "abcxyz+" {
		t.Errorf("what was appended to what was read became %q", more)
	}
	_ = append(read, '-')
	wantFiles(t, d, "a", "abcxyzx")
	d.Cut("a", 2)
	d.Append("a", []byte("12345678"))
	d.Crash(1)
	d.Append("a", []byte("ABCDEFGH"))
	if string(read) != "abcxyz" {
		t.Errorf("what was read became %q", read)
	}
	wantFiles(t, d, "a", "ab1ABCDEFGH")
	names := d.Names("")
	_ = append(names, "b")
	wantFiles(t, d, "a", "ab1ABCDEFGH")
}

// TestDisksAreIndependent is P2.
func TestDisksAreIndependent(t *testing.T) {
	c, d := with(t, 9, "a", "abc"), with(t, 9, "a", "abc")
	c.Append("b", []byte("x"))
	c.Cut("a", 1)
	c.Widen(1)
	c.Arm(0, 0)
	c.Sync("a")
	wantFiles(t, d, "a", "abc")
	if room, _ := d.Room(); room != 9 || !d.On() || d.Acts() != 2 {
		t.Errorf("Room %d, On %v, Acts %d", room, d.On(), d.Acts())
	}
	wantError(t, "Append", d.Append("b", []byte("xyz")), api.OK)
	c.Crash(0)
	wantFiles(t, c, "a", "a", "b", "")
	if p, _ := d.Read("b"); !bytes.Equal(p, []byte("xyz")) {
		t.Errorf("Read = %q", p)
	}
}

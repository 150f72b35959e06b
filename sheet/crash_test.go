package sheet_test

import (
	"math/rand"
	"slices"
	"strings"
	"testing"

	"anabranch/api"
	"anabranch/disk"
	"anabranch/sheet"
)

// TestScanOfAnything is P1, and P5.1: what Scan accepts is a sheet of what it returns, up to Good.
func TestScanOfAnything(t *testing.T) {
	r := rand.New(rand.NewSource(51))
	accepted := 0
	for range 30000 {
		p := randomSheet(r)
		s, e := sheet.Scan(p)
		if e != api.OK {
			if e != api.ErrForm && e != api.ErrShort && e != api.ErrLong {
				t.Fatalf("Scan(%q): %d", p, e)
			}
			wantNone(t, "Scan", s, e, e)
			continue
		}
		accepted++
		var records []string
		for _, l := range s.L {
			records = append(records, string(l))
		}
		if whole := file(s.T, records...); s.Good != len(whole) || string(p[:s.Good]) != whole || (s.E == api.OK) != (s.Good == len(p)) {
			t.Fatalf("Scan(%q) = %s", p, brief(s))
		}
	}
	if accepted < 1000 {
		t.Errorf("only %d sheets", accepted)
	}
}

// randomSheet returns a sheet of which a bit may be wrong, or the end missing, or which has no title.
func randomSheet(r *rand.Rand) []byte {
	var p []byte
	if r.Intn(8) > 0 {
		p = []byte(head(sheet.Title{Kind: byte(r.Intn(256)), A: r.Uint64() >> r.Intn(64), B: r.Uint64() >> r.Intn(64)}))
	}
	for range r.Intn(5) {
		text := make([]byte, r.Intn(12))
		r.Read(text)
		if r.Intn(4) == 0 {
			text = append([]byte("ana1"), text...)
		}
		p = append(p, sealed(string(text))...)
	}
	if len(p) > 0 && r.Intn(2) == 0 {
		p[r.Intn(len(p))] ^= 1 << r.Intn(8)
	}
	if r.Intn(2) == 0 {
		p = p[:len(p)-r.Intn(len(p)+1)]
	}
	return p
}

// TestNothingDurableIsLost is P5.2: whatever is added, swapped and lost at crashes, Mend finds all records that were
// durable, and after them the first ones of those that were not.
func TestNothingDurableIsLost(t *testing.T) {
	r := rand.New(rand.NewSource(52))
	for range 2000 {
		d := disk.New(200 + r.Intn(200))
		wantError(t, "Begin", sheet.Begin(d, "f", some), api.OK)
		var records []string
		safe := 0
		for range 40 {
			text := strings.Repeat(string("pqrs"[r.Intn(4)]), r.Intn(20))
			switch r.Intn(6) {
			case 0:
				if d.Sync("f") == api.OK {
					safe = len(records)
				}
			case 1:
				kept := records[:r.Intn(len(records)+1)]
				if sheet.Swap(d, "f", some, lists(kept...)...) == api.OK {
					records, safe = slices.Clone(kept), len(kept)
				}
			case 2:
				d.Arm(r.Intn(5), r.Intn(30))
			default:
				switch e := sheet.Add(d, "f", []byte(text)); {
				case e == api.OK || e == api.ErrStop: // at a stop all of it may be written
					records = append(records, text)
				case e != api.ErrFull:
					t.Fatalf("Add: %d", e)
				}
			}
			if !d.On() {
				records = records[:restart(t, r, d, records, safe)]
				safe = len(records)
			}
		}
	}
}

// restart lets the disk crash, checks what Mend finds, and returns how many records are left.
func restart(t *testing.T, r *rand.Rand, d *disk.Disk, records []string, safe int) int {
	t.Helper()
	d.Crash(r.Intn(60))
	s, e := sheet.Mend(d, "f")
	n := len(s.L)
	if n < safe || n > len(records) {
		t.Fatalf("%d records of %d, of which %d were durable, %d", n, len(records), safe, e)
	}
	p := file(some, records[:n]...)
	wantSheet(t, s, e, some, len(p), api.OK, records[:n]...)
	if got, e := d.Read("f"); e != api.OK || string(got) != p || t.Failed() {
		t.Fatalf("Read = %q, %d, want %q", got, e, p)
	}
	return n
}

// TestMemory is the rule on memory: arguments stay as they are, and what was returned shares nothing with them, nor
// with the disk.
func TestMemory(t *testing.T) {
	all := file(some, "one", "", "two") + "\x05a"
	for n := range len(all) + 1 {
		p := []byte(all)
		s, _ := sheet.Scan(p[:n])
		for _, l := range s.L {
			_ = append(l, '+')
		}
		_ = append(s.L, []byte("three"))
		if string(p) != all {
			t.Fatalf("Scan of %d bytes: %q became %q", n, all, p)
		}
		clear(p)
		if len(s.L) > 0 && string(s.L[0]) != "one" || len(s.L) > 2 && string(s.L[2]) != "two" {
			t.Fatalf("the records became %q", s.L)
		}
	}
	d := disk.New(wide)
	l := lists("one", "", "two", "spare")
	one, three := []byte("one, and more")[:3], l[:3]
	sheet.Swap(d, "f", some, three...)
	sheet.Add(d, "f", one)
	if string(one[:13]) != "one, and more" || len(l) != 4 || string(l[0])+string(l[1])+string(l[2])+string(l[3]) != "onetwospare" {
		t.Errorf("the arguments became %q, %q", one[:13], l)
	}
	clear(one)
	clear(l[0])
	s, e := sheet.Read(d, "f")
	clear(s.L[2])
	_ = append(sheet.Head(some), '+')
	wantFiles(t, d, "f", file(some, "one", "", "two", "one"))
	s, e = sheet.Mend(d, "f")
	wantSheet(t, s, e, some, len(file(some, "one", "", "two", "one")), api.OK, "one", "", "two", "one")
}

// TestAnswersDoNotDependOnOtherCalls is P2.
func TestAnswersDoNotDependOnOtherCalls(t *testing.T) {
	c, d := disk.New(wide), disk.New(wide)
	for range 3 {
		if string(sheet.Head(some)) != head(some) {
			t.Errorf("Head = %q", sheet.Head(some))
		}
		s, e := sheet.Scan([]byte(file(some, "one")))
		wantSheet(t, s, e, some, len(file(some, "one")), api.OK, "one")
		s, e = sheet.Scan([]byte("nothing"))
		wantNone(t, "Scan", s, e, api.ErrShort)
	}
	sheet.Begin(c, "f", some)
	sheet.Begin(d, "f", some)
	c.Arm(0, 2)
	wantError(t, "Add", sheet.Add(c, "f", []byte("one")), api.ErrStop)
	wantError(t, "Add", sheet.Add(d, "f", []byte("two")), api.OK)
	wantError(t, "Swap", sheet.Swap(d, "g", some, []byte("three")), api.OK)
	c.Crash(9)
	wantFiles(t, c, "f", file(some)+"\x03o")
	wantFiles(t, d, "f", file(some, "two"), "g", file(some, "three"))
}

package manifest_test

import (
	"slices"
	"strings"
	"testing"

	"anabranch/api"
	"anabranch/disk"
	"anabranch/manifest"
	"anabranch/vector"
)

// The tests of P10.2, as far as it is about Write.

// others are manifests of the same and of another node and serial.
var others = []manifest.Manifest{
	some,
	{Node: 3, Serial: 4, Floor: vector.Vector{1, 2, 3}, Time: 6, Fold: "fold-5"},
	{Node: 4, Serial: 4, Floor: vector.Vector{1, 2}, Time: 5, Fold: "fold-4"},
	{Node: 3, Serial: 5, Floor: vector.Vector{1, 2}, Time: 5, Fold: "fold-4"},
	{Node: 3, Serial: 3},
	{},
}

// old returns what may be where a manifest is to be written: nothing (as "none"), manifests, and files that are none.
func old() []string {
	l := []string{"none", "", "no sheet", head('m', 3, 4), head('f', 3, 4) + sealed("fold"), file(some) + sealed("more"), file(some)[:9]}
	for _, m := range others {
		l = append(l, file(m))
	}
	return l
}

// disks returns for each of these files a disk with it, if there is to be one, and a file that is none of Write's business.
func disks(t *testing.T) []*disk.Disk {
	t.Helper()
	var l []*disk.Disk
	for _, p := range old() {
		for _, left := range []string{"none", "", "left", file(others[1])} {
			files := []string{"manifest-2", "other"}
			if p != "none" {
				files = append(files, manifest.Name, p)
			}
			if left != "none" {
				files = append(files, fresh, left)
			}
			l = append(l, with(t, files...))
		}
	}
	return l
}

func TestConstants(t *testing.T) {
	if manifest.Name != "manifest" || manifest.Kind != 'm' {
		t.Errorf("%q, %q", manifest.Name, manifest.Kind)
	}
}

func TestWrite(t *testing.T) {
	for _, m := range others {
		for _, d := range disks(t) {
			acts := d.Acts()
			wantError(t, "Write", manifest.Write(d, m), api.OK)
			wantFiles(t, d, "manifest", file(m), "manifest-2", "other")
			if d.Acts() != acts+4 || d.Safe("manifest") != len(file(m)) {
				t.Errorf("%d operations, %d bytes are durable", d.Acts()-acts, d.Safe("manifest"))
			}
			got, e := manifest.Read(d)
			wantManifest(t, "Read", got, e, m)
		}
	}
}

func TestWriteAgainAndAgain(t *testing.T) {
	d := disk.New(wide)
	for _, m := range samples() {
		for range 2 {
			wantError(t, "Write", manifest.Write(d, m), api.OK)
			wantFiles(t, d, "manifest", file(m))
			got, e := manifest.Read(d)
			wantManifest(t, "Read", got, e, m)
		}
	}
}

// wantErrArg checks that Write refuses m, also together with other errors, without any operation.
func wantErrArg(t *testing.T, m manifest.Manifest) {
	t.Helper()
	for _, p := range old() {
		d := with(t, "manifest", p, fresh, "left")
		for _, room := range []int{wide, 0} {
			d.Widen(room)
			acts := d.Acts()
			wantError(t, "Write", manifest.Write(d, m), api.ErrArg)
			wantFiles(t, d, "manifest", p, fresh, "left")
			if d.Acts() != acts {
				t.Errorf("%d operations", d.Acts()-acts)
			}
		}
	}
	wantError(t, "Write", manifest.Write(stopped(t, "manifest", file(some)), m), api.ErrArg)
	wantError(t, "Write", manifest.Write(nil, m), api.ErrArg)
}

func TestWriteOfABadNode(t *testing.T) {
	for _, n := range badNodes {
		m := some
		m.Node = n
		wantErrArg(t, m)
		wantErrArg(t, manifest.Manifest{Node: n})
		m.Serial, m.Time, m.Floor = above, above, make(vector.Vector, 65)
		wantErrArg(t, m)
	}
}

func TestWriteOfABadFold(t *testing.T) {
	for _, s := range append(badFolds, strings.Repeat("x", api.MaxFile+1), strings.Repeat("x", 1<<22)) {
		m := some
		m.Fold = s
		wantErrArg(t, m)
		m.Node = -1
		wantErrArg(t, m)
	}
}

// TestWriteOfWhatDecodeRefuses: Write examines the node and the fold only. What it writes then is no manifest for Read.
func TestWriteOfWhatDecodeRefuses(t *testing.T) {
	for _, change := range []func(m *manifest.Manifest){
		func(m *manifest.Manifest) { m.Serial = above },
		func(m *manifest.Manifest) { m.Time = above },
		func(m *manifest.Manifest) { m.Floor = vector.Vector{above} },
		func(m *manifest.Manifest) { m.Floor = slices.Repeat(vector.Vector{1}, 65) },
	} {
		m, d := some, with(t, "manifest", file(some))
		change(&m)
		wantError(t, "Write", manifest.Write(d, m), api.OK)
		wantFiles(t, d, "manifest", file(m))
		got, e := manifest.Read(d)
		wantNone(t, "Read", got, e, api.ErrForm)
	}
}

// TestWriteOfTheLongest: a floor beyond its limit may be longer than a record.
func TestWriteOfTheLongest(t *testing.T) {
	m := some
	for _, c := range []struct {
		length int
		want   api.Errno
	}{{2097152, api.OK}, {2097153, api.ErrLong}} {
		m.Floor = slices.Repeat(vector.Vector{1}, c.length-13)
		if n := len(encoded(m)); n != c.length {
			t.Fatalf("%d bytes", n)
		}
		d := with(t, "manifest", file(some), "other", "o")
		wantError(t, "Write", manifest.Write(d, m), c.want)
		if c.want == api.OK {
			wantFiles(t, d, "manifest", file(m), "other", "o")
		} else {
			wantFiles(t, d, "manifest", file(some), "other", "o")
		}
		wantError(t, "Write", manifest.Write(nil, m), api.ErrStop)
	}
}

// TestWriteWithoutRoom: the old file needs its room, too, but what was left beside it does not.
func TestWriteWithoutRoom(t *testing.T) {
	m := others[3]
	for _, p := range old()[1:] {
		for _, left := range []string{"", strings.Repeat("l", 1000)} {
			d := with(t, "manifest", p, fresh, left)
			for _, room := range []int{-1, 0, len(p), len(p) + len(file(m)) - 1} {
				d.Widen(room)
				wantError(t, "Write", manifest.Write(d, m), api.ErrFull)
				wantFiles(t, d, "manifest", p)
			}
			d.Widen(len(p) + len(file(m)))
			wantError(t, "Write", manifest.Write(d, m), api.OK)
			wantFiles(t, d, "manifest", file(m))
		}
	}
	d := disk.New(len(file(m)) - 1)
	wantError(t, "Write", manifest.Write(d, m), api.ErrFull)
	got, e := manifest.Read(d)
	wantNone(t, "Read", got, e, api.ErrNone)
	wantFiles(t, d)
}

// TestWriteDoesNotKeepItsArgument is the rule on memory.
func TestWriteDoesNotKeepItsArgument(t *testing.T) {
	all := vector.Vector{1, 2, 0, 7}
	m, d := some, disk.New(wide)
	m.Floor = all[:3]
	wantError(t, "Write", manifest.Write(d, m), api.OK)
	if !slices.Equal(all, vector.Vector{1, 2, 0, 7}) {
		t.Errorf("the floor became %v", all)
	}
	clear(all)
	got, e := manifest.Read(d)
	wantManifest(t, "Read", got, e, some)
	_ = append(got.Floor, 8)
	clear(got.Floor)
	got, e = manifest.Read(d)
	wantManifest(t, "Read", got, e, some)
}

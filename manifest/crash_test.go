package manifest_test

import (
	"math/rand"
	"testing"

	"anabranch/api"
	"anabranch/disk"
	"anabranch/manifest"
)

// TestWriteAtWhichTheDiskStops: whichever operation it is, and whatever a crash keeps, there is the old file or, if
// Write returned OK, the new one; and the next Write does what this one would have done.
func TestWriteAtWhichTheDiskStops(t *testing.T) {
	want := file(some)
	for _, p := range []string{"none", "no manifest", file(others[1]), file(others[2]), file(others[3]), file(others[5])} {
		for stop := range 6 {
			for torn := range len(want) + 2 {
				for _, keep := range []int{-1, 0, 1, torn, len(want)} {
					d := with(t, fresh, "left", "other", "o")
					files := []string{"other", "o"}
					if p != "none" {
						d.Append("manifest", []byte(p))
						d.Sync("manifest")
						files = append(files, "manifest", p)
					}
					d.Arm(stop, torn)
					e := manifest.Write(d, some)
					d.Crash(keep)
					if stop >= 4 {
						wantError(t, "Write", e, api.OK)
						wantFiles(t, d, "manifest", want, "other", "o")
					} else {
						wantError(t, "Write", e, api.ErrStop)
						d.Remove(fresh)
						wantFiles(t, d, files...)
					}
					wantError(t, "Write again", manifest.Write(d, some), api.OK)
					wantFiles(t, d, "manifest", want, "other", "o")
					if t.Failed() {
						t.Fatalf("old %q, stop %d, torn %d, keep %d", p, stop, torn, keep)
					}
				}
			}
		}
	}
}

// TestNothingIsLost: whatever is written, refused and lost at crashes, Read returns what was written last.
func TestNothingIsLost(t *testing.T) {
	r := rand.New(rand.NewSource(103))
	for range 500 {
		d := disk.New(100 + r.Intn(200))
		var last manifest.Manifest
		none, stops := true, 0
		for range 60 {
			m := randomManifest(r)
			if r.Intn(4) == 0 {
				d.Arm(r.Intn(8), r.Intn(60))
			}
			switch e := manifest.Write(d, m); e {
			case api.OK:
				last, none = m, false
			case api.ErrStop, api.ErrFull:
			default:
				t.Fatalf("Write: %d", e)
			}
			if !d.On() {
				d.Crash(r.Intn(60) - 1)
				stops++
			}
			got, e := manifest.Read(d)
			if none {
				wantNone(t, "Read", got, e, api.ErrNone)
			} else {
				wantManifest(t, "Read", got, e, last)
			}
			if t.Failed() {
				t.FailNow()
			}
		}
		if stops == 0 {
			t.Error("the disk never stopped")
		}
	}
}

// TestDisksAreApart is P2: what one disk holds does not depend on what was done with another one.
func TestDisksAreApart(t *testing.T) {
	c, d := disk.New(wide), disk.New(wide)
	wantError(t, "Write", manifest.Write(c, some), api.OK)
	m, e := manifest.Read(d)
	wantNone(t, "Read", m, e, api.ErrNone)
	wantError(t, "Write", manifest.Write(d, others[2]), api.OK)
	c.Arm(0, 0)
	wantError(t, "Write", manifest.Write(c, others[1]), api.ErrStop)
	m, e = manifest.Read(d)
	wantManifest(t, "Read", m, e, others[2])
	m, e = manifest.Read(c)
	wantNone(t, "Read", m, e, api.ErrStop)
	c.Crash(0)
	m, e = manifest.Read(c)
	wantManifest(t, "Read", m, e, some)
}

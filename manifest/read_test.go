package manifest_test

import (
	"math/rand"
	"slices"
	"strings"
	"testing"

	"anabranch/api"
	"anabranch/disk"
	"anabranch/manifest"
)

// The tests of P10.2, as far as it is about Read.

// TestReadOfAnEmptyDisk is the chapter's example.
func TestReadOfAnEmptyDisk(t *testing.T) {
	m, e := manifest.Read(disk.New(wide))
	wantNone(t, "Read", m, e, api.ErrNone)
}

// TestReadWithoutAManifest: files of other names do not count.
func TestReadWithoutAManifest(t *testing.T) {
	d := with(t, fresh, file(some), "manifes", file(some), "manifest-", file(some), "m", file(some), "fold-4", file(some))
	m, e := manifest.Read(d)
	wantNone(t, "Read", m, e, api.ErrNone)
	wantError(t, "Write", manifest.Write(d, some), api.OK)
	wantError(t, "Remove", d.Remove("manifest"), api.OK)
	m, e = manifest.Read(d)
	wantNone(t, "Read behind Remove", m, e, api.ErrNone)
}

// TestRead: it does no operation, so what was not durable is not yet.
func TestRead(t *testing.T) {
	for _, m := range samples() {
		p := file(m)
		d := with(t, "manifest", p[:3], fresh, "left")
		d.Append("manifest", []byte(p[3:]))
		acts := d.Acts()
		d.Arm(0, 0)
		for range 2 {
			got, e := manifest.Read(d)
			wantManifest(t, "Read", got, e, m)
		}
		if d.Acts() != acts || d.Safe("manifest") != 3 || !d.On() {
			t.Errorf("%d operations, %d bytes are durable", d.Acts()-acts, d.Safe("manifest"))
		}
		wantFiles(t, d, "manifest", p, fresh, "left")
	}
}

// wantErrForm checks that Read refuses a file with these bytes, and leaves it as it is.
func wantErrForm(t *testing.T, p string) {
	t.Helper()
	d := with(t, "manifest", p, fresh, file(some))
	acts := d.Acts()
	for range 2 {
		m, e := manifest.Read(d)
		wantNone(t, "Read", m, e, api.ErrForm)
	}
	if d.Acts() != acts || t.Failed() {
		t.Fatalf("%d operations for a file %.200q", d.Acts()-acts, p)
	}
	wantFiles(t, d, "manifest", p, fresh, file(some))
}

// TestReadOfAnotherTitle: the kind, the node or the serial is another one, or there is no title.
func TestReadOfAnotherTitle(t *testing.T) {
	record := sealed(encoded(some))
	for _, title := range []string{
		head('s', 3, 4), head('f', 3, 4), head('M', 3, 4), head(0, 3, 4), head('m', 4, 3), head('m', 2, 4), head('m', 4, 4), head('m', 0, 4),
		head('m', 64, 4), head('m', 3, 3), head('m', 3, 5), head('m', 3, 0), head('m', 3, 1<<63|4), head('m', 1<<32|3, 4), head('m', 1<<63|3, 4),
		"", record, sealed(""), sealed("ana1"), sealed("ana1m"), sealed("ana1m\x03"), sealed("ana1m\x03\x04\x00"), sealed("ana2m\x03\x04"),
		"ana1m\x03\x04", "\x80\x00", "\x81\x80\x80\x01",
	} {
		wantErrForm(t, title+record)
	}
	wantErrForm(t, head('m', 63, 4)+record)
	got, e := manifest.Read(with(t, "manifest", head('m', 3, 4)+record))
	wantManifest(t, "Read", got, e, some)
}

// TestReadOfOtherRecords: there is none, or one that is no manifest, or more than one.
func TestReadOfOtherRecords(t *testing.T) {
	title, record := head('m', 3, 4), sealed(encoded(some))
	for _, rest := range []string{
		"", record + record, record + sealed(""), sealed("") + record, record + sealed(encoded(others[1])), record + title,
		sealed(""), sealed("no manifest"), sealed(encoded(some)[1:]), sealed(encoded(some) + "\x00"), sealed(encoded(some)[:8]), sealed(record),
		sealed(encoded(others[2])), sealed(encoded(others[3])), sealed(encoded(others[5])), encoded(some),
		sealed(laid(3, 4, []uint64{1, 0}, 5, "fold-4")), sealed(laid(3, 4, nil, 5, "x y")), sealed(laid(3, 4, nil, above, "")),
		sealed(laid(3, 4, []uint64{above}, 5, "")), sealed(laid(3, 4, slices.Repeat([]uint64{1}, 65), 5, "")),
		sealed(laid(3, 4, nil, 5, strings.Repeat("x", 49))), sealed(laid(3|1<<32, 4, nil, 5, "")), sealed(laid(3|1<<63, 4, nil, 5, "")),
		sealed(laid(3, 4|1<<63, nil, 5, "")), sealed(strings.Repeat("r", 2097152)), sealed(strings.Repeat("r", 2097153)),
		record + "\x80\x00", record + "\x05a", record + "\x00", record + "\x81\x80\x80\x01",
	} {
		wantErrForm(t, title+rest)
	}
	for _, n := range []uint64{64, 65, 1<<63 | 3} {
		wantErrForm(t, head('m', n, 4)+sealed(laid(n, 4, nil, 5, "")))
	}
	for _, n := range []uint64{above, above + 4, 1<<64 - 1} {
		wantErrForm(t, head('m', 3, n)+sealed(laid(3, n, nil, 5, "")))
	}
}

// TestReadOfADamagedFile: any bit is another one, any byte is not there or there twice, the end is missing, or bytes follow.
func TestReadOfADamagedFile(t *testing.T) {
	for _, m := range []manifest.Manifest{{}, some} {
		p := []byte(file(m))
		for i := range p {
			wantErrForm(t, string(p[:i]))
			wantErrForm(t, string(slices.Delete(slices.Clone(p), i, i+1)))
			wantErrForm(t, string(slices.Insert(slices.Clone(p), i, p[i])))
			for bit := range 8 {
				other := slices.Clone(p)
				other[i] ^= 1 << bit
				wantErrForm(t, string(other))
			}
		}
		for b := range 256 {
			wantErrForm(t, string(append(slices.Clone(p), byte(b))))
		}
		wantErrForm(t, string(p)+string(p))
	}
}

// TestReadOfAnything is P1, and P10.2: what Read accepts is what Write writes.
func TestReadOfAnything(t *testing.T) {
	r := rand.New(rand.NewSource(102))
	accepted := 0
	for range 20000 {
		p := randomFile(r)
		got, e := manifest.Read(with(t, "manifest", p))
		if e != api.OK {
			wantNone(t, "Read", got, e, api.ErrForm)
			continue
		}
		accepted++
		if p != file(got) || got.Node > 63 || got.Serial > api.End || got.Time > api.End || !named(got.Fold) || t.Failed() {
			t.Fatalf("Read of %q = %v", p, got)
		}
	}
	if accepted < 1000 || accepted > 19000 {
		t.Errorf("%d manifests", accepted)
	}
}

// randomFile returns the file of a manifest of which the title, a record, or a bit may be wrong, or the end missing.
func randomFile(r *rand.Rand) string {
	m := randomManifest(r)
	p := head("mmmmmf"[r.Intn(6)], uint64(m.Node), m.Serial)
	for range [...]int{1, 1, 1, 1, 1, 1, 0, 2}[r.Intn(8)] {
		x := m
		switch r.Intn(16) {
		case 0:
			x.Node = r.Intn(70)
		case 1:
			x.Serial = r.Uint64()
		case 2:
			x.Time = r.Uint64()
		case 3:
			x.Fold = strings.Repeat("x", r.Intn(60))
		}
		p += sealed(encoded(x))
	}
	b := []byte(p)
	if r.Intn(4) == 0 {
		b[r.Intn(len(b))] ^= 1 << r.Intn(8)
	}
	if r.Intn(4) == 0 {
		b = b[:r.Intn(len(b)+1)]
	}
	return string(b)
}

// TestReadOfAStoppedDisk: whether there is a manifest, and what is in it, cannot be told.
func TestReadOfAStoppedDisk(t *testing.T) {
	for _, d := range []*disk.Disk{nil, stopped(t), stopped(t, "manifest", file(some)), stopped(t, "manifest", "no manifest"), stopped(t, fresh, file(some))} {
		m, e := manifest.Read(d)
		wantNone(t, "Read", m, e, api.ErrStop)
		wantError(t, "Write", manifest.Write(d, some), api.ErrStop)
		m, e = manifest.Read(d)
		wantNone(t, "Read", m, e, api.ErrStop)
	}
}

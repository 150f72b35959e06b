package manifest_test

import (
	"encoding/binary"
	"fmt"
	"hash/crc32"
	"math"
	"math/rand"
	"slices"
	"strings"
	"testing"

	"anabranch/api"
	"anabranch/disk"
	"anabranch/manifest"
	"anabranch/vector"
)

// wide is room for everything that a test writes.
const wide = 1 << 25

// fresh is the file that sheet.Swap makes before it replaces the manifest (P5.2).
const fresh = "manifest.new"

var castagnoli = crc32.MakeTable(crc32.Castagnoli)

// some has another value in every field.
var some = manifest.Manifest{Node: 3, Serial: 4, Floor: vector.Vector{1, 2}, Time: 5, Fold: "fold-4"}

// The following functions make encodings and files without the program's packages.

// laid returns these parts as P10.1 says, whether or not they are those of a manifest.
func laid(node, serial uint64, floor []uint64, time uint64, fold string) string {
	p := binary.AppendUvarint(binary.AppendUvarint(nil, node), serial)
	p = binary.AppendUvarint(p, uint64(len(floor)))
	for _, n := range floor {
		p = binary.AppendUvarint(p, n)
	}
	p = binary.AppendUvarint(binary.AppendUvarint(p, time), uint64(len(fold)))
	return string(p) + fold
}

// trimmed returns a floor without trailing zeros.
func trimmed(v []uint64) []uint64 {
	for len(v) > 0 && v[len(v)-1] == 0 {
		v = v[:len(v)-1]
	}
	return v
}

// encoded returns the encoding of a manifest (P10.1).
func encoded(m manifest.Manifest) string {
	return laid(uint64(m.Node), m.Serial, trimmed(m.Floor), m.Time, m.Fold)
}

// sealed returns the record of these contents (P3.1).
func sealed(contents string) string {
	p := append(binary.AppendUvarint(nil, uint64(len(contents))), contents...)
	return string(binary.BigEndian.AppendUint32(p, crc32.Checksum(p, castagnoli)))
}

// head returns the record of a title (P5.1).
func head(kind byte, a, b uint64) string {
	return sealed(string(binary.AppendUvarint(binary.AppendUvarint([]byte{'a', 'n', 'a', '1', kind}, a), b)))
}

// file returns the bytes of the file of a manifest (P10.2).
func file(m manifest.Manifest) string {
	return head('m', uint64(m.Node), m.Serial) + sealed(encoded(m))
}

// identical reports whether two manifests are equal but for trailing zeros of their floors.
func identical(a, b manifest.Manifest) bool {
	return a.Node == b.Node && a.Serial == b.Serial && slices.Equal(trimmed(a.Floor), trimmed(b.Floor)) && a.Time == b.Time && a.Fold == b.Fold
}

// samples returns manifests with each of these values in each field, and the others at their limits.
func samples() []manifest.Manifest {
	most := manifest.Manifest{Node: 63, Serial: api.End, Floor: slices.Repeat(vector.Vector{api.End}, 64), Time: api.End, Fold: strings.Repeat("z", api.MaxFile)}
	var l []manifest.Manifest
	for _, m := range []manifest.Manifest{{}, {Serial: 1}, some, most} {
		for _, n := range []uint64{0, 1, 127, 128, 300, api.End - 1, api.End} {
			x, y := m, m
			x.Serial, y.Time = n, n
			l = append(l, x, y)
		}
		for _, n := range []int{0, 1, 2, 62, 63} {
			x := m
			x.Node = n
			l = append(l, x)
		}
		for _, v := range floors() {
			x := m
			x.Floor = v
			l = append(l, x)
		}
		for _, s := range []string{"", "a", "-", ".", "..", "manifest", "fold-9223372036854775807", "09az.-", most.Fold[1:], most.Fold} {
			x := m
			x.Fold = s
			l = append(l, x)
		}
	}
	return l
}

// floors returns floors of which some have trailing zeros.
func floors() []vector.Vector {
	last := make(vector.Vector, 64)
	last[63] = 7
	return []vector.Vector{nil, {}, {0}, {0, 0, 0}, {1}, {1, 0}, {0, 1}, {127, 128, 0, 300, 0, 0}, {api.End}, last, last[:63],
		slices.Repeat(vector.Vector{1}, 63), slices.Repeat(vector.Vector{1}, 64), slices.Repeat(vector.Vector{api.End}, 64)}
}

// badFolds are neither empty nor names that a file may have; they have at most MaxFile bytes.
var badFolds = []string{"x y", "A", "fold_4", "fold/4", " ", "fold-4\n", "\x00", "\xff", "é", "fold-4é", strings.Repeat("x", api.MaxFile-1) + "X"}

// badNodes are no nodes.
var badNodes = []int{math.MinInt, -64, -1, api.MaxNodes, api.MaxNodes + 1, 127, 128, math.MaxInt}

func randomManifest(r *rand.Rand) manifest.Manifest {
	m := manifest.Manifest{Node: r.Intn(64), Serial: r.Uint64() >> (1 + r.Intn(63)), Time: r.Uint64() >> (1 + r.Intn(63))}
	m.Floor = make(vector.Vector, r.Intn(8))
	for w := range m.Floor {
		m.Floor[w] = r.Uint64() >> (1 + r.Intn(63))
	}
	if r.Intn(4) > 0 {
		m.Fold = fmt.Sprintf("fold-%d", m.Serial)
	}
	return m
}

func wantError(t *testing.T, what string, got, want api.Errno) {
	t.Helper()
	if got != want {
		t.Errorf("%s: %d, want %d", what, got, want)
	}
}

// wantManifest checks a manifest that Decode or Read returned: it has the fields of want, and a floor without trailing zeros.
func wantManifest(t *testing.T, what string, m manifest.Manifest, e api.Errno, want manifest.Manifest) {
	t.Helper()
	if e != api.OK || !identical(m, want) || len(m.Floor) != len(trimmed(want.Floor)) {
		t.Errorf("%s = %v, %d, want %v", what, m, e, want)
	}
}

// wantNone checks what Decode or Read returned with an error.
func wantNone(t *testing.T, what string, m manifest.Manifest, e, want api.Errno) {
	t.Helper()
	if e != want || m.Node != 0 || m.Serial != 0 || len(m.Floor) != 0 || m.Time != 0 || m.Fold != "" {
		t.Errorf("%s = %v, %d, want the error %d", what, m, e, want)
	}
}

// wantFiles checks that a disk that has not stopped has exactly these files, given as name, contents, name, contents ..
func wantFiles(t *testing.T, d *disk.Disk, files ...string) {
	t.Helper()
	var names []string
	for i := 0; i < len(files); i += 2 {
		names = append(names, files[i])
		if p, e := d.Read(files[i]); e != api.OK || string(p) != files[i+1] {
			t.Errorf("Read(%s) = %.100q, %d, want %.100q", files[i], p, e, files[i+1])
		}
	}
	slices.Sort(names)
	if got := d.Names(""); !slices.Equal(got, names) {
		t.Errorf("Names = %q, want %q", got, names)
	}
}

// with returns a disk with files of these contents, durable, given as name, contents, name, contents ..
func with(t *testing.T, files ...string) *disk.Disk {
	t.Helper()
	d := disk.New(wide)
	for i := 0; i < len(files); i += 2 {
		wantError(t, "Append", d.Append(files[i], []byte(files[i+1])), api.OK)
		wantError(t, "Sync", d.Sync(files[i]), api.OK)
	}
	return d
}

// stopped returns a disk with these files that has stopped.
func stopped(t *testing.T, files ...string) *disk.Disk {
	t.Helper()
	d := with(t, files...)
	d.Arm(0, 0)
	d.Sync("x")
	return d
}

package store_test

import (
	"fmt"
	"maps"
	"math"
	"slices"
	"strings"
	"testing"

	"anabranch/api"
	"anabranch/disk"
	"anabranch/store"
)

// TestExample is the chapter's example.
func TestExample(t *testing.T) {
	s, e := store.Open(disk.New(wide), 0, 1, 60)
	wantError(t, "Open", e, api.OK)
	x, e := s.Write(api.Event{Kind: api.Set, Key: "k"})
	if e != api.OK || x.Seq != 1 || x.Time != 1 {
		t.Errorf("Write = %v, %d", x, e)
	}
}

// TestKind: the title of a fold has this kind (P14.1).
func TestKind(t *testing.T) {
	if store.Kind != 'f' {
		t.Errorf("Kind = %q", store.Kind)
	}
}

// TestOpenOfAnEmptyDisk: a manifest is written, with Serial 1 and nothing else, for any node, number of nodes and size.
func TestOpenOfAnEmptyDisk(t *testing.T) {
	for _, node := range []int{0, 1, 2, 62, 63} {
		for _, nodes := range []int{math.MinInt, -1, 0, 1, 2, 63, 64, 65, math.MaxInt} {
			for _, size := range []int{math.MinInt, -1, 0, 60, large} {
				d := disk.New(wide)
				s, e := store.Open(d, node, nodes, size)
				wantError(t, "Open", e, api.OK)
				m := &model{node: node, nodes: nodes, size: size, serial: 1, base: history{nodes: nodes}}
				wantStore(t, "new", s, m)
				wantNames(t, "new", s, m)
				wantFiles(t, "new", d, map[string]string{"manifest": manifestFile(node, 1, nil, 0, "")})
				d.Crash(-1)
				p := &pair{s: s, d: d, m: m}
				p.check(t, "new, after a crash")
			}
		}
	}
}

// TestOpenTakesTheFeeds: segments without a manifest are those of a store whose manifest is then written.
func TestOpenTakesTheFeeds(t *testing.T) {
	l := []api.Event{at(1, 1, 4, set("k", "hi")), at(1, 2, 6, join(9)), at(1, 3, 9, retire())}
	d := with(t, map[string]string{nameOf(1, 1): file(1, 1, l[:2]...), nameOf(1, 3): file(1, 3, l[2]), "fold-1": "x", "manifest.new": "y"})
	p := &pair{d: d, m: &model{node: 2, nodes: 2, size: 60, serial: 1, base: history{nodes: 2}}}
	p.m.rest[1], p.m.firsts[1] = l, []uint64{1, 3}
	p.open(t)
	p.check(t, "with segments")
}

// TestOpenMakesDurable: what a store has after Open is not lost, whether or not it was durable before.
func TestOpenMakesDurable(t *testing.T) {
	l := []api.Event{at(0, 1, 1, set("k", "hi")), at(0, 2, 2, drop("k")), at(3, 1, 3, drop("z"))}
	d := disk.New(wide)
	d.Append(nameOf(0, 1), []byte(file(0, 1, l[:2]...)))
	d.Append(nameOf(3, 1), []byte(file(3, 1, l[2])))
	p := &pair{d: d, m: &model{node: 0, nodes: 4, size: large, serial: 1, base: history{nodes: 4}}}
	p.m.rest[0], p.m.rest[3], p.m.firsts[0], p.m.firsts[3] = l[:2], l[2:], []uint64{1}, []uint64{1}
	p.open(t)
	d.Crash(-1)
	p.open(t)
	p.check(t, "after a crash")
	p.open(t)
	p.truncate(t, 2)
	p.check(t, "truncated")
}

// TestOpenOfNoNode: ErrArg, whatever the disk is, and nothing is asked of it.
func TestOpenOfNoNode(t *testing.T) {
	off := disk.New(wide)
	stop(off)
	files := map[string]string{"manifest": "none", "x.new": "x", "fold-9": "y"}
	for _, node := range noNodes {
		d := with(t, files)
		acts := d.Acts()
		for _, d := range []*disk.Disk{nil, off, d} {
			s, e := store.Open(d, node, 2, 60)
			wantNoStore(t, fmt.Sprint("node ", node), s, e, api.ErrArg)
		}
		wantFiles(t, "no node", d, files)
		if d.Acts() != acts {
			t.Errorf("%d operations", d.Acts()-acts)
		}
	}
}

// TestOpenOfNoDisk: ErrStop.
func TestOpenOfNoDisk(t *testing.T) {
	off := disk.New(wide)
	stop(off)
	for _, d := range []*disk.Disk{nil, off} {
		for node := range 64 {
			s, e := store.Open(d, node, 2, 60)
			wantNoStore(t, "Open", s, e, api.ErrStop)
		}
	}
}

func wantNoStore(t *testing.T, what string, s *store.Store, e, want api.Errno) {
	t.Helper()
	if s != nil || e != want {
		t.Errorf("%s: %v, %d, want nil, %d", what, s, e, want)
	}
}

// wantRefused checks that Open returns ErrForm of a disk with these files, and changes none; others are there, too, that
// it would remove if it succeeded.
func wantRefused(t *testing.T, what string, node int, files map[string]string) {
	t.Helper()
	for _, more := range []map[string]string{nil, {"a.new": "a", "manifest.new": "b", "fold-77": "c", nameOf(0, 9): "d"}} {
		all := maps.Clone(files)
		maps.Copy(all, more)
		d := with(t, all)
		s, e := store.Open(d, node, 2, 60)
		wantNoStore(t, what, s, e, api.ErrForm)
		wantFiles(t, what, d, all)
	}
}

// TestOpenOfAnotherNode: ErrForm.
func TestOpenOfAnotherNode(t *testing.T) {
	for _, m := range []*model{{node: 0, serial: 1}, {node: 5, serial: 1}, {node: 63, serial: 9, time: 7, base: history{nodes: 2, l: []api.Event{at(1, 1, 3, drop("k"))}}}} {
		for node := range 64 {
			if node != m.node {
				wantRefused(t, fmt.Sprintf("node %d of %d", node, m.node), node, m.files())
			}
		}
	}
}

// TestOpenOfNoManifest: ErrForm, if the file is not a manifest's.
func TestOpenOfNoManifest(t *testing.T) {
	right := manifestFile(0, 1, nil, 0, "")
	bad := []string{"", "x", right + "x", right + sealed(""), right[:len(right)-1], head('m', 0, 1), head('m', 0, 2) + right[len(head('m', 0, 1)):],
		head('f', 0, 1) + right[len(head('m', 0, 1)):], manifestFile(64, 1, nil, 0, ""), manifestFile(0, 1<<63, nil, 0, ""),
		manifestFile(0, 1, []uint64{0}, 0, ""), manifestFile(0, 1, nil, 1<<63, ""), manifestFile(0, 1, nil, 0, "A"), foldFile(0, 1, history{}.encoded())}
	for i := range right {
		bad = append(bad, right[:i], right[:i]+string([]byte{right[i] ^ 4})+right[i+1:])
	}
	for _, p := range bad {
		wantRefused(t, fmt.Sprintf("manifest %q", p), 0, map[string]string{"manifest": p})
	}
}

// folded returns a model whose fold has events of two writers.
func folded() *model {
	l := []api.Event{at(0, 1, 1, set("k", "hi")), at(1, 1, 1, add("n", 2)), at(1, 2, 4, join(7)), at(0, 2, 5, retire())}
	m := &model{node: 3, nodes: 2, size: 60, serial: 12, time: 6, base: history{nodes: 2, l: l}}
	m.rest[1], m.firsts[1] = []api.Event{at(1, 3, 8, drop("k"))}, []uint64{3}
	return m
}

// TestOpenOfAFold: the store has the manifest's fold, whatever the number of nodes that is passed.
func TestOpenOfAFold(t *testing.T) {
	for _, nodes := range []int{-1, 0, 2, 64} {
		m := folded()
		m.nodes = nodes
		p := &pair{d: with(t, m.files()), m: m}
		p.open(t)
		p.check(t, "with a fold")
	}
	m := folded()
	m.base, m.rest, m.firsts = history{nodes: 5}, [64][]api.Event{}, [64][]uint64{}
	p := &pair{d: with(t, m.files()), m: m}
	p.open(t)
	p.check(t, "with a fold of no events")
	m.serial = api.End
	p = &pair{d: with(t, m.files()), m: m}
	p.open(t)
	p.check(t, "with the last serial")
}

// TestOpenOfNoFold: ErrForm, if the manifest's fold does not exist, or is invalid.
func TestOpenOfNoFold(t *testing.T) {
	m := folded()
	p := m.base.encoded()
	right, title := foldFile(3, 12, p), head('f', 3, 12)
	bad := []string{"", title, title + sealed(""), right + "x", right + sealed(""), right + sealed("x"), title + sealed("") + sealed(p),
		title + sealed(p[:9]) + sealed(p[9:]), title + sealed(p+"x"), title + sealed(p[:len(p)-1]), head('g', 3, 12) + sealed(p),
		head('f', 2, 12) + sealed(p), head('f', 3, 11) + sealed(p), head('f', 3, 13) + sealed(p), "x" + right, m.files()["manifest"]}
	for i := range right {
		bad = append(bad, right[:i], right[:i]+string([]byte{right[i] ^ 16})+right[i+1:])
	}
	files := m.files()
	for _, p := range bad {
		files["fold-12"] = p
		wantRefused(t, fmt.Sprintf("fold %.60q", p), 3, files)
	}
	delete(files, "fold-12")
	wantRefused(t, "no fold", 3, files)
	for _, name := range []string{"fold-11", "fold-13", "fold-012", "fold-", "fold-c", "fold-12.new", "fold", "manifest", "x"} {
		files := m.files()
		files[name] = right
		files["manifest"] = manifestFile(3, 12, []uint64{2, 2}, 6, name)
		wantRefused(t, "the fold "+name, 3, files)
	}
}

// TestOpenOfAnotherFold: ErrForm, if the fold does not match the manifest's Floor.
func TestOpenOfAnotherFold(t *testing.T) {
	files := folded().files()
	for _, floor := range [][]uint64{nil, {2}, {0, 2}, {2, 1}, {2, 3}, {1, 2}, {3, 2}, {2, 2, 1}, {2, 2, 0, 5}} {
		files["manifest"] = manifestFile(3, 12, floor, 6, "fold-12")
		wantRefused(t, fmt.Sprint("floor ", floor), 3, files)
		if len(floor) > 0 {
			wantRefused(t, fmt.Sprint("no fold, floor ", floor), 3, map[string]string{"manifest": manifestFile(3, 12, floor, 6, "")})
		}
	}
	files["manifest"] = manifestFile(3, 12, []uint64{2, 2}, 6, "")
	wantRefused(t, "a floor without a fold", 3, files)
}

// TestOpenOfAManifestWithoutAFold: the fold is that of no events, whatever else the manifest says.
func TestOpenOfAManifestWithoutAFold(t *testing.T) {
	d := with(t, map[string]string{"manifest": manifestFile(4, 7, nil, 30, ""), "fold-7": "x"})
	s, e := store.Open(d, 4, 5, 60)
	wantError(t, "Open", e, api.OK)
	wantStore(t, "without a fold", s, &model{node: 4, nodes: 5, size: 60, serial: 7, time: 30, base: history{nodes: 5}})
	wantFiles(t, "without a fold", d, map[string]string{"manifest": manifestFile(4, 7, nil, 30, "")})
	x, e := s.Write(drop("k"))
	if e != api.OK || x.Time != 31 {
		t.Errorf("Write = %v, %d", x, e)
	}
}

// TestOpenRemoves: files whose names end with .new, folds of other serials, and nothing else.
func TestOpenRemoves(t *testing.T) {
	gone := []string{".new", "new.new", "manifest.new", "fold-12.new", "fold-13.new", nameOf(1, 3) + ".new", "x.new", "fold-", "fold-1", "fold-11", "fold-13",
		"fold-012", "fold-12.", "fold-x", "fold-12-", strings.Repeat("x", api.MaxFile-4) + ".new"}
	stay := []string{"new", "x.new.", "xnew", "fold", "fol-12", "xfold-1", "-fold-1", "feed-64-0000000000000001", "feed", "manifest-", "1"}
	for _, m := range []*model{folded(), {node: 3, nodes: 2, size: 60, serial: 1, base: history{nodes: 2}}} {
		files := m.files()
		for _, name := range stay {
			files[name] = "stay"
		}
		d := with(t, files)
		for _, name := range gone {
			d.Append(name, []byte("gone"))
		}
		if m.serial == 1 {
			d.Append("fold-12", []byte("gone"))
		}
		s, e := store.Open(d, 3, 2, 60)
		wantError(t, "Open", e, api.OK)
		wantStore(t, "cleaned", s, m)
		wantFiles(t, "cleaned", d, files)
		delete(files, "manifest")
		if got := s.Files(); !slices.Equal(got, slices.Sorted(maps.Keys(files))) {
			t.Errorf("Files() = %q", got)
		}
	}
}

// TestFoldsOfManyPieces: a fold is in records of 1048576 bytes.
func TestFoldsOfManyPieces(t *testing.T) {
	long := strings.Repeat("t", api.MaxText)
	for _, texts := range [][]string{
		{long},
		{long, long, "x"},
		{long, long[:api.MaxText/2], long[:api.MaxText/3]},
		{exactly(t, 1, 0)}, {exactly(t, 1, -1)}, {exactly(t, 1, 1)},
		{long, exactly(t, 2, 0)}, {long, exactly(t, 2, -1)}, {long, exactly(t, 2, 1)},
	} {
		p := begin(t, 0, 1, large)
		for i, s := range texts {
			p.writes(t, set(keyOf(i), s))
		}
		p.truncate(t, uint64(len(texts)))
		p.check(t, fmt.Sprintf("%d texts", len(texts)))
	}
}

func keyOf(i int) string {
	return string(rune('a' + i))
}

// exactly returns a text that makes an encoding of n times 1048576 bytes, and more, if the texts before it have 1048576
// bytes each.
func exactly(t *testing.T, n, more int) string {
	t.Helper()
	h := history{nodes: 1}
	for i := range n {
		h.l = append(h.l, at(0, uint64(i+1), uint64(i+1), set(keyOf(i), strings.Repeat("t", api.MaxText))))
	}
	too := len(h.encoded()) - n*1048576 - more
	s := strings.Repeat("t", api.MaxText-too)
	h.l[n-1].Text = []byte(s)
	if len(h.encoded()) != n*1048576+more {
		t.Fatalf("%d bytes, want %d", len(h.encoded()), n*1048576+more)
	}
	return s
}

// TestOtherPieces: the same encoding in other records is no fold.
func TestOtherPieces(t *testing.T) {
	h := history{nodes: 1, l: []api.Event{at(0, 1, 1, set("k", strings.Repeat("t", api.MaxText)))}}
	m := &model{node: 0, nodes: 1, size: 60, serial: 2, time: 1, base: h}
	files := m.files()
	p := &pair{d: with(t, files), m: m}
	p.open(t)
	p.check(t, "two pieces")
	s := h.encoded()
	for _, cuts := range [][]int{{}, {1}, {1048575}, {1048577}, {9, 1048576}, {1048576, 1048576}, {0, 1048576}, {1048576, len(s)}} {
		file, done := head('f', 0, 2), 0
		for _, at := range append(cuts, len(s)) {
			file += sealed(s[done:at])
			done = at
		}
		files["fold-2"] = file
		wantRefused(t, fmt.Sprint("cut at ", cuts), 0, files)
	}
}

// TestOpenWithoutRoom: ErrFull, if there is no room for the manifest, and nothing has changed.
func TestOpenWithoutRoom(t *testing.T) {
	need := len(manifestFile(0, 1, nil, 0, ""))
	for room := -1; room < need; room++ {
		d := disk.New(room + 1)
		d.Append("x", []byte("x"))
		files := contents(d)
		s, e := store.Open(d, 0, 2, 60)
		wantNoStore(t, fmt.Sprintf("room for %d", room), s, e, api.ErrFull)
		wantFiles(t, "without room", d, files)
		d.Widen(need + 1)
		_, e = store.Open(d, 0, 2, 60)
		wantError(t, "Open", e, api.OK)
	}
}

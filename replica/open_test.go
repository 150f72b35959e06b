package replica_test

import (
	"fmt"
	"math"
	"slices"
	"testing"

	"anabranch/api"
	"anabranch/disk"
	"anabranch/letter"
	"anabranch/replica"
)

// The tests of P18.1 for Open.

// TestExample is the chapter's example.
func TestExample(t *testing.T) {
	r := cluster(t, 1)[0]
	wantStable(t, "new", r, 0)
	x := write(t, r, set("k", "v"))
	if !sameEvent(x, at(0, 1, 1, set("k", "v"))) {
		t.Errorf("Write = %v", x)
	}
	wantStable(t, "behind a Write", r, 1)
}

// numbers are those that Open takes, noNumbers some that it does not.
var (
	numbers   = []uint64{1, 2, 3, 1 << 16, 1 << 29, most - 1, most}
	noNumbers = []uint64{0, 1 << 30, 1<<30 + 1, 1 << 31, 1 << 32, 1<<32 + 1, 1 << 62, 1 << 63, math.MaxUint64}
)

// stopped returns a disk that has stopped.
func stopped() *disk.Disk {
	d := disk.New(wide)
	d.Arm(0, 0)
	d.Sync("x")
	return d
}

// stored returns a disk with the store of node 0, of whose events some are folded.
func stored(t *testing.T) *disk.Disk {
	t.Helper()
	d := disk.New(wide)
	c := config
	c.Nodes = 1
	r := openOn(t, d, 0, c, 1)
	write(t, r, set("k", "v"), join(1), drop("k"))
	wantError(t, "Truncate", r.Store().Truncate(2), api.OK)
	return d
}

// TestNumbers: the n of the first, the last and other openings, on an empty disk and on one that has a store.
func TestNumbers(t *testing.T) {
	for _, n := range numbers {
		for _, d := range []*disk.Disk{disk.New(wide), stored(t)} {
			have := len(d.Names("")) > 0
			r := openOn(t, d, 0, config, n)
			if (len(r.Vector()) > 0) != have {
				t.Errorf("opened for the time %d, it has %v", n, r.Vector())
			}
			for i := range uint64(3) {
				if x := decoded(t, begin(t, r, 1)); x.Serial != n<<32+1+i {
					t.Errorf("exchange %d of opening %d has the Serial %x", i, n, x.Serial)
				}
			}
		}
	}
}

// TestNoNumbers: ErrArg, whatever the disk and the node are, and nothing is asked of the disk.
func TestNoNumbers(t *testing.T) {
	for _, n := range noNumbers {
		for _, d := range []*disk.Disk{nil, stopped(), disk.New(0), disk.New(wide), stored(t)} {
			acts, before := d.Acts(), files(d)
			for _, node := range append([]int{0, 1, 63}, noNodes...) {
				wantNone(t, fmt.Sprintf("node %d, time %d", node, n), d, node, n, api.ErrArg)
			}
			if d.Acts() != acts || files(d) != before {
				t.Errorf("time %d: %d operations, and the files are %s", n, d.Acts()-acts, files(d))
			}
		}
	}
}

// wantNone checks that Open fails.
func wantNone(t *testing.T, what string, d *disk.Disk, node int, n uint64, want api.Errno) {
	t.Helper()
	if r, e := replica.Open(d, node, config, n); r != nil || e != want {
		t.Fatalf("%s: Open = %v, %d, want nil, %d", what, r, e, want)
	}
}

// TestNoNode: ErrArg of the store, and nothing is asked of the disk.
func TestNoNode(t *testing.T) {
	for _, d := range []*disk.Disk{nil, stopped(), disk.New(0), disk.New(wide), stored(t)} {
		acts, before := d.Acts(), files(d)
		for _, node := range noNodes {
			for _, n := range []uint64{1, most} {
				wantNone(t, fmt.Sprint("node ", node), d, node, n, api.ErrArg)
			}
		}
		if d.Acts() != acts || files(d) != before {
			t.Errorf("%d operations, and the files are %s", d.Acts()-acts, files(d))
		}
	}
}

// TestNoDisk: ErrStop.
func TestNoDisk(t *testing.T) {
	for _, d := range []*disk.Disk{nil, stopped()} {
		for _, node := range []int{0, 1, 63} {
			wantNone(t, "no disk", d, node, 1, api.ErrStop)
		}
	}
	for _, make := range []func() *disk.Disk{func() *disk.Disk { return disk.New(wide) }, func() *disk.Disk { return dirty(t) }} {
		d := make()
		before := d.Acts()
		openOn(t, d, 0, config, 2)
		acts := d.Acts() - before
		if acts == 0 {
			t.Fatal("Open does no operation")
		}
		for i := range acts {
			d := make()
			had := d.Names("manifest")
			d.Arm(i, i)
			wantNone(t, fmt.Sprintf("operation %d", i), d, 0, 2, api.ErrStop)
			d.Crash(i)
			r := openOn(t, d, 0, config, 3)
			if len(had) > 0 && !slices.Equal(r.Vector(), []uint64{3}) {
				t.Errorf("operation %d: afterwards it has %v", i, r.Vector())
			}
		}
	}
}

// dirty returns a disk with a store, and with files that Open removes.
func dirty(t *testing.T) *disk.Disk {
	t.Helper()
	d := stored(t)
	for _, name := range []string{"manifest.new", "fold-99", "fold-2.new"} {
		d.Append(name, []byte("x"))
		d.Sync(name)
	}
	return d
}

// TestNoRoom: ErrFull, until there is enough. With a store on it, no room is needed.
func TestNoRoom(t *testing.T) {
	d := disk.New(wide)
	openOn(t, d, 0, config, 1)
	_, needed := d.Room()
	for room := range needed {
		d := disk.New(room)
		wantNone(t, fmt.Sprint("room ", room), d, 0, 1, api.ErrFull)
		if p := files(d); p != "" {
			t.Errorf("room %d: there are files: %s", room, p)
		}
	}
	openOn(t, disk.New(needed), 0, config, 1)
	d = dirty(t)
	d.Widen(0)
	if r := openOn(t, d, 0, config, 2); !slices.Equal(r.Vector(), []uint64{3}) {
		t.Errorf("it has %v", r.Vector())
	}
}

// TestNoStore: ErrForm, if what is on the disk is no store, or another node's.
func TestNoStore(t *testing.T) {
	for node := 1; node < 64; node++ {
		d := stored(t)
		before := files(d)
		wantNone(t, "another node's", d, node, 2, api.ErrForm)
		if files(d) != before {
			t.Errorf("node %d has changed the files of node 0", node)
		}
	}
	for _, name := range []string{"manifest", "fold-2"} {
		right, e := stored(t).Read(name)
		wantError(t, "Read of "+name, e, api.OK)
		for i := range right {
			bent := slices.Clone(right)
			bent[i] ^= 4
			d := replaced(t, name, bent)
			wantNone(t, fmt.Sprintf("%s with byte %d wrong", name, i), d, 0, 2, api.ErrForm)
			wantNone(t, name+" cut off", replaced(t, name, right[:i]), 0, 2, api.ErrForm)
		}
		wantNone(t, name+" with more", replaced(t, name, append(right, 'x')), 0, 2, api.ErrForm)
	}
	d := stored(t)
	d.Remove("fold-2")
	wantNone(t, "without its fold", d, 0, 2, api.ErrForm)
}

// replaced returns a disk with a store, of which a file is another one.
func replaced(t *testing.T, name string, p []byte) *disk.Disk {
	t.Helper()
	d := stored(t)
	d.Remove(name)
	d.Append(name, p)
	return d
}

// TestNodes: the Nodes of the config are those that have joined from the beginning.
func TestNodes(t *testing.T) {
	for _, c := range []struct{ nodes, want int }{{math.MinInt, 0}, {-1, 0}, {0, 0}, {1, 1}, {3, 3}, {63, 63}, {64, 64}, {65, 64}, {math.MaxInt, 64}} {
		r := open(t, 2, api.Config{Nodes: c.nodes, Segment: 60, Batch: 1, Chunk: 1})
		members := r.Store().Members()
		if len(members) != c.want || !slices.Equal(members, r.View().Members()) || c.want > 0 && members[c.want-1] != c.want-1 {
			t.Errorf("of %d nodes the members are %v", c.nodes, members)
		}
	}
}

// TestSegment: the Segment of the config is the size at which a segment ends.
func TestSegment(t *testing.T) {
	for _, c := range []struct{ size, want int }{{math.MinInt, 9}, {-1, 9}, {0, 9}, {1, 9}, {wide, 1}, {math.MaxInt, 1}} {
		r := open(t, 0, api.Config{Nodes: 1, Segment: c.size, Batch: 1, Chunk: 1})
		for range 9 {
			write(t, r, set("k", "v"))
		}
		if n := len(r.Store().Files()); n != c.want {
			t.Errorf("with a segment of %d bytes there are %d files, want %d", c.size, n, c.want)
		}
	}
	c := config
	c.Segment = 100
	r := open(t, 0, c)
	for len(r.Store().Files()) < 3 {
		write(t, r, set("k", "v"))
	}
	if n := len(r.Vector()); n != 1 || r.Vector().Get(0) < 6 {
		t.Errorf("three segments of 100 bytes have only %v events", r.Vector())
	}
}

// lacked returns what a replica sends to one that has nothing, of which the first letter is a Summary.
func lacked(t *testing.T, r *replica.Replica) []letter.Letter {
	t.Helper()
	return hear(t, r, 1, letter.Letter{Kind: letter.Hello})[1:]
}

// TestBatch: the Batch of the config is limited from below.
func TestBatch(t *testing.T) {
	for _, c := range []struct {
		batch int
		want  []int
	}{
		{math.MinInt, []int{1, 1, 1, 1, 1}}, {-1, []int{1, 1, 1, 1, 1}}, {0, []int{1, 1, 1, 1, 1}}, {1, []int{1, 1, 1, 1, 1}},
		{2, []int{2, 2, 1}}, {3, []int{3, 2}}, {4, []int{4, 1}}, {5, []int{5}}, {6, []int{5}}, {math.MaxInt, []int{5}},
	} {
		r := open(t, 0, api.Config{Nodes: 1, Segment: 60, Batch: c.batch, Chunk: 1})
		for range 5 {
			write(t, r, add("n", 1))
		}
		var got []int
		for _, x := range lacked(t, r) {
			got = append(got, len(x.Events))
		}
		if !slices.Equal(got, c.want) {
			t.Errorf("with a Batch of %d the batches have %v events, want %v", c.batch, got, c.want)
		}
	}
}

// TestChunk: the Chunk of the config is limited from below and above.
func TestChunk(t *testing.T) {
	const limit = 1 << 20
	c := config
	c.Nodes = 1
	d := disk.New(wide)
	r := openOn(t, d, 0, c, 1)
	large := make([]byte, api.MaxText)
	write(t, r, api.Event{Kind: api.Set, Key: "a", Text: large}, api.Event{Kind: api.Set, Key: "b", Text: large}, set("c", "v"))
	wantStable(t, "alone", r, 3)
	wantError(t, "Truncate", r.Truncate(), api.OK)
	size := len(r.View().Base().Encode())
	for _, k := range []struct{ chunk, want int }{{limit - 1, limit - 1}, {limit, limit}, {limit + 1, limit}, {2 * limit, limit}, {math.MaxInt, limit}} {
		c.Chunk = k.chunk
		wantChunks(t, openOn(t, d, 0, c, 2), k.chunk, k.want, size)
	}
	d = disk.New(wide)
	r = openOn(t, d, 0, c, 1)
	write(t, r, set("k", "v"))
	wantError(t, "Truncate", r.Truncate(), api.OK)
	size = len(r.View().Base().Encode())
	for _, k := range []struct{ chunk, want int }{{math.MinInt, 1}, {-1, 1}, {0, 1}, {1, 1}, {2, 2}, {size - 1, size - 1}, {size, size}, {size + 1, size}} {
		c.Chunk = k.chunk
		wantChunks(t, openOn(t, d, 0, c, 2), k.chunk, k.want, size)
	}
}

// wantChunks checks how many bytes there are in the letters of a fold, which are so many in all.
func wantChunks(t *testing.T, r *replica.Replica, chunk, want, all int) {
	t.Helper()
	l := lacked(t, r)
	if l[0].Kind != letter.Offer || l[0].Size != uint64(all) {
		t.Fatalf("a letter of kind %d and Size %d, want an Offer of %d", l[0].Kind, l[0].Size, all)
	}
	at := 0
	for _, x := range l[1:] {
		if x.Kind != letter.Chunk || x.At != uint64(at) || len(x.Bytes) != min(want, all-at) {
			t.Fatalf("with a Chunk of %d, there is one of %d bytes at %d", chunk, len(x.Bytes), x.At)
		}
		at += len(x.Bytes)
	}
	if at != all {
		t.Fatalf("with a Chunk of %d, there are %d bytes, want %d", chunk, at, all)
	}
}

// TestNothingKnown: a replica that was opened anew knows nothing of others, and has what it had.
func TestNothingKnown(t *testing.T) {
	d := disk.New(wide)
	r := openOn(t, d, 0, config, 1)
	write(t, r, set("k", "v"), add("n", 2))
	get(t, r, at(1, 1, 1, set("k1", "w")), at(1, 2, 4, drop("k")))
	tell(t, r, row(1, 4, 2, 2), row(2, 3, 2, 1))
	wantStable(t, "told", r, 3)
	wantError(t, "Truncate", r.Truncate(), api.OK)
	write(t, r, put("x", 0.5))
	tell(t, r, row(1, 9, 3, 2), row(2, 9, 3, 2))
	wantStable(t, "told more", r, 5)
	l := []api.Event{at(0, 1, 1, set("k", "v")), at(1, 1, 1, set("k1", "w")), at(0, 2, 2, add("n", 2)), at(1, 2, 4, drop("k")), at(0, 3, 5, put("x", 0.5))}
	for n := uint64(2); n < 6; n++ {
		if n%2 == 0 {
			d.Crash(-1)
		}
		wantView(t, "before", r, 3, l)
		r = openOn(t, d, 0, config, n)
		wantView(t, "opened anew", r, 3, l)
		for _, x := range r.Matrix().Rows() {
			if x.Node != 0 {
				t.Errorf("something is known: %v", x)
			}
		}
		if r.Store().Time() != 3 || r.View().Len() != 2 || !slices.Equal(r.Store().Floor(), []uint64{2, 1}) {
			t.Errorf("it has folded up to %d, %v, and tells %d events", r.Store().Time(), r.Store().Floor(), r.View().Len())
		}
		wantStable(t, "opened anew", r, 3)
		tell(t, r, row(1, 9, 3, 2), row(2, 9, 3, 2))
		wantStable(t, "opened anew, and told", r, 5)
	}
	if x := write(t, r, drop("x")); !sameEvent(x, at(0, 4, 6, drop("x"))) {
		t.Errorf("the next event is %v", x)
	}
}

// TestSerials: another replica takes the exchanges of a later opening for newer ones, and those of an earlier opening for old
// ones.
func TestSerials(t *testing.T) {
	d := disk.New(wide)
	other := open(t, 1, config)
	var l [][]byte
	for _, n := range []uint64{1, 2, 5, most} {
		r := openOn(t, d, 0, config, n)
		first, last := begin(t, r, 1), begin(t, r, 1)
		l = append(l, first, last)
		d.Crash(0)
	}
	for i, p := range l {
		answers, e := other.Hear(p)
		if e != api.OK || len(answers) != 1 || answers[0].Kind != letter.Summary || answers[0].Serial != decoded(t, p).Serial {
			t.Errorf("exchange %d: %v, %d", i, answers, e)
		}
		for _, old := range l[:i] {
			answers, e := other.Hear(old)
			if len(answers) > 0 || e != api.ErrOld {
				t.Errorf("an exchange before %d: %v, %d", i, answers, e)
			}
		}
	}
}

// TestAnswersOfAnEarlierOpening: they are old for a replica that was opened anew, whether or not it has begun an exchange.
func TestAnswersOfAnEarlierOpening(t *testing.T) {
	d := disk.New(wide)
	other := open(t, 1, config)
	write(t, other, set("k", "v"))
	l, e := other.Hear(begin(t, openOn(t, d, 0, config, 1), 1))
	wantError(t, "Hear", e, api.OK)
	r := openOn(t, d, 0, config, 2)
	for range 2 {
		for _, x := range l {
			if answers, e := r.Hear(letter.Encode(x)); len(answers) > 0 || e != api.ErrOld {
				t.Errorf("an answer: %v, %d", answers, e)
			}
		}
		begin(t, r, 1)
	}
	if len(r.Vector()) > 0 {
		t.Errorf("it has %v", r.Vector())
	}
}

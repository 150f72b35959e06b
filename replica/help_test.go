package replica_test

import (
	"fmt"
	"math"
	"slices"
	"testing"

	"anabranch/api"
	"anabranch/check"
	"anabranch/disk"
	"anabranch/event"
	"anabranch/fold"
	"anabranch/letter"
	"anabranch/replica"
	"anabranch/vector"
)

const (
	wide   = 1 << 28 // room for everything that a test writes
	most   = 1<<30 - 1
	serial = 7 // of the exchange of the letters that a test makes up
)

// noNodes are numbers of no node.
var noNodes = []int{math.MinInt, -1 << 32, -64, -1, 64, 65, 127, 128, 1 << 32, math.MaxInt}

// config is that of most tests: three nodes have joined from the beginning.
var config = api.Config{Nodes: 3, Segment: 60, Room: wide, Batch: 3, Chunk: 20}

// The following functions return events as a caller passes them to Write.

func set(key, text string) api.Event { return api.Event{Kind: api.Set, Key: key, Text: []byte(text)} }

func put(key string, x float64) api.Event { return api.Event{Kind: api.Put, Key: key, Num: x} }

func add(key string, x float64) api.Event { return api.Event{Kind: api.Add, Key: key, Num: x} }

func drop(key string) api.Event { return api.Event{Kind: api.Drop, Key: key} }

func join(n int) api.Event { return api.Event{Kind: api.Join, Node: n} }

func retire() api.Event { return api.Event{Kind: api.Retire} }

// at returns an event of a writer.
func at(writer int, seq, time uint64, e api.Event) api.Event {
	e.Writer, e.Seq, e.Time = writer, seq, time
	return e
}

func sameEvent(a, b api.Event) bool {
	return a.Writer == b.Writer && a.Seq == b.Seq && a.Time == b.Time && a.Kind == b.Kind && a.Key == b.Key &&
		string(a.Text) == string(b.Text) && math.Float64bits(a.Num) == math.Float64bits(b.Num) && a.Node == b.Node
}

func sameCell(a, b api.Cell) bool {
	return a.Kind == b.Kind && string(a.Text) == string(b.Text) && math.Float64bits(a.Num) == math.Float64bits(b.Num)
}

func sameRow(a, b api.Row) bool {
	return a.Node == b.Node && slices.Equal(a.Have, b.Have) && a.Time == b.Time
}

// foldOf returns the state that events lead to.
func foldOf(t *testing.T, nodes int, l []api.Event) *fold.Fold {
	t.Helper()
	f := fold.New(nodes)
	for _, e := range l {
		wantError(t, fmt.Sprint("Apply of ", e), f.Apply(e), api.OK)
	}
	return f
}

func wantError(t *testing.T, what string, got, want api.Errno) {
	t.Helper()
	if got != want {
		t.Fatalf("%s: %d, want %d", what, got, want)
	}
}

// open returns a replica for the first time, on a disk of its own.
func open(t *testing.T, node int, c api.Config) *replica.Replica {
	t.Helper()
	return openOn(t, disk.New(wide), node, c, 1)
}

// openOn returns a replica on a disk, for the n-th time.
func openOn(t *testing.T, d *disk.Disk, node int, c api.Config, n uint64) *replica.Replica {
	t.Helper()
	r, e := replica.Open(d, node, c, n)
	if r == nil || e != api.OK {
		t.Fatalf("Open of node %d: %v, %d", node, r, e)
	}
	return r
}

// cluster returns the replicas of the first nodes of a cluster, all of which have joined.
func cluster(t *testing.T, nodes int) []*replica.Replica {
	t.Helper()
	c := config
	c.Nodes = nodes
	var l []*replica.Replica
	for node := range nodes {
		l = append(l, open(t, node, c))
	}
	return l
}

// write writes events, which must succeed, and returns the last one.
func write(t *testing.T, r *replica.Replica, l ...api.Event) (x api.Event) {
	t.Helper()
	for _, e := range l {
		var wrong api.Errno
		x, wrong = r.Write(e)
		wantError(t, fmt.Sprint("Write of ", e), wrong, api.OK)
	}
	return x
}

// begin begins an exchange, which must succeed.
func begin(t *testing.T, r *replica.Replica, to int) []byte {
	t.Helper()
	p, e := r.Begin(to)
	wantError(t, fmt.Sprintf("Begin(%d)", to), e, api.OK)
	return p
}

// decoded returns the letter of some bytes, which must be one.
func decoded(t *testing.T, p []byte) letter.Letter {
	t.Helper()
	x, e := letter.Decode(p)
	wantError(t, fmt.Sprintf("Decode(%x)", p), e, api.OK)
	return x
}

// exchange lets one replica begin an exchange with another one, in which nothing is lost.
func exchange(t *testing.T, l []*replica.Replica, from, to int) {
	t.Helper()
	for net := [][]byte{begin(t, l[from], to)}; len(net) > 0; net = net[1:] {
		answers, e := l[decoded(t, net[0]).To].Hear(net[0])
		wantError(t, "Hear", e, api.OK)
		for _, x := range answers {
			net = append(net, letter.Encode(x))
		}
	}
}

// to addresses a letter to a replica, in an exchange that the sender began.
func to(r *replica.Replica, from int, x letter.Letter) letter.Letter {
	x.From, x.To, x.Mine, x.Serial = from, r.Store().Node(), true, serial
	return x
}

// hear lets a replica hear a letter of another node, and returns what is to be sent. The error must be OK.
func hear(t *testing.T, r *replica.Replica, from int, x letter.Letter) []letter.Letter {
	t.Helper()
	l, e := r.Hear(letter.Encode(to(r, from, x)))
	wantError(t, fmt.Sprintf("Hear of a letter of kind %d from %d", x.Kind, from), e, api.OK)
	return l
}

// get lets a replica get events from the last one's writer.
func get(t *testing.T, r *replica.Replica, l ...api.Event) {
	t.Helper()
	from := l[len(l)-1].Writer
	hear(t, r, from, letter.Letter{Kind: letter.Batch, Have: nil, Events: l})
}

// tell lets a replica hear rows, from a node that there need not be.
func tell(t *testing.T, r *replica.Replica, rows ...api.Row) {
	t.Helper()
	hear(t, r, (r.Store().Node()+1)%api.MaxNodes, letter.Letter{Kind: letter.Ack, Rows: rows})
}

// install lets a replica get the fold of some events, up to a time.
func install(t *testing.T, r *replica.Replica, f *fold.Fold, time uint64) {
	t.Helper()
	for _, x := range offered(f, time) {
		hear(t, r, (r.Store().Node()+1)%api.MaxNodes, x)
	}
}

// offered returns the letters that hold a fold.
func offered(f *fold.Fold, time uint64) []letter.Letter {
	p := f.Encode()
	size := uint64(len(p))
	return []letter.Letter{
		{Kind: letter.Offer, Have: f.Have(), Time: time, Size: size, Sum: check.Sum(p)},
		{Kind: letter.Chunk, Size: size, At: 0, Bytes: p},
	}
}

// row returns what is known of a member.
func row(node int, time uint64, have ...uint64) api.Row {
	return api.Row{Node: node, Have: have, Time: time}
}

// state tells everything that a caller can ask about a replica, but for its stable time, as that lets the matrix know more.
func state(r *replica.Replica) string {
	s := r.Store()
	p := fmt.Sprint(s.Node(), s.Have(), s.Clock(), s.Floor(), s.Time(), s.Members(), s.Files())
	for _, l := range s.Lists() {
		p += fmt.Sprintf(";%x", encodings(l))
	}
	return p + fmt.Sprintf("%x %v %x %v", s.Base().Encode(), r.Matrix().Rows(), r.View().Mark(), r.Vector())
}

func encodings(l []api.Event) []byte {
	var p []byte
	for _, e := range l {
		p = append(p, event.Encode(e)...)
	}
	return p
}

// files tells all that is on a disk.
func files(d *disk.Disk) string {
	p := ""
	for _, name := range d.Names("") {
		bytes, _ := d.Read(name)
		p += fmt.Sprintf("%s %x;", name, bytes)
	}
	return p
}

// wantView checks what a replica tells about its events, which are all of l, in order.
func wantView(t *testing.T, what string, r *replica.Replica, nodes int, l []api.Event) {
	t.Helper()
	f, v := foldOf(t, nodes, l), r.View()
	if !slices.Equal(r.Vector(), f.Have()) || !vector.Same(v.Have(), f.Have()) {
		t.Fatalf("%s: it has %v, and its view %v, want %v", what, r.Vector(), v.Have(), f.Have())
	}
	if v.Mark() != f.Mark() || string(v.Fold().Encode()) != string(f.Encode()) {
		t.Fatalf("%s: the state is another one", what)
	}
	folded := len(l) - v.Len()
	for i, e := range l[folded:] {
		if x, ok := v.At(i); !ok || !sameEvent(x, e) {
			t.Fatalf("%s: event %d is %v, want %v", what, folded+i, x, e)
		}
	}
	for _, key := range append(f.Keys(), "", "none", "k", "dropped") {
		want, there := f.Cell(key)
		if got, ok := r.Read(key); ok != there || !sameCell(got, want) {
			t.Fatalf("%s: Read(%q) = %v, %v, want %v, %v", what, key, got, ok, want, there)
		}
	}
}

// wantStable checks the stable time of a replica.
func wantStable(t *testing.T, what string, r *replica.Replica, want uint64) {
	t.Helper()
	if got := r.Stable(); got != want {
		t.Fatalf("%s: Stable() = %d, want %d", what, got, want)
	}
}

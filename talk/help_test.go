package talk_test

import (
	"encoding/binary"
	"fmt"
	"hash/crc32"
	"hash/fnv"
	"math"
	"slices"
	"strconv"
	"strings"
	"testing"

	"anabranch/api"
	"anabranch/disk"
	"anabranch/letter"
	"anabranch/matrix"
	"anabranch/store"
	"anabranch/talk"
)

const (
	wide      = 1 << 28 // room for everything that a test writes
	segment   = 300     // bytes
	mostBytes = 2097152 // of the events of a batch
	mostChunk = 1048576
)

// noNodes are numbers of no node.
var noNodes = []int{math.MinInt, -1 << 32, -64, -1, 64, 65, 127, 128, 1 << 32, math.MaxInt}

// kinds are those of all letters.
var kinds = []byte{letter.Hello, letter.Summary, letter.Batch, letter.Ack, letter.Offer, letter.Chunk, letter.Abort}

// listed returns the events of a text like "0.1@5 2.1@6": the event 1 of writer 0 at time 5, then the event 1 of writer 2 at
// time 6. Each is a Set of its writer's key, but 0.2@7+9 is a Join of node 9, and 0.3@8- a Retire.
func listed(text string) []api.Event {
	var l []api.Event
	for _, word := range strings.Fields(text) {
		name, rest, _ := strings.Cut(word, "@")
		writer, seq, _ := strings.Cut(name, ".")
		time, node, joins := strings.Cut(strings.TrimSuffix(rest, "-"), "+")
		e := api.Event{Writer: int(number(writer)), Seq: number(seq), Time: number(time)}
		switch {
		case joins:
			e.Kind, e.Node = api.Join, int(number(node))
		case strings.HasSuffix(rest, "-"):
			e.Kind = api.Retire
		default:
			e.Kind, e.Key, e.Text = api.Set, "k"+writer, []byte(name)
		}
		l = append(l, e)
	}
	return l
}

func number(text string) uint64 {
	n, e := strconv.ParseUint(text, 10, 64)
	if e != nil {
		panic(e)
	}
	return n
}

// held is what a store holds, as the test knows it: all events, in order, of which those up to a time are folded.
type held struct {
	nodes int // that have joined from the beginning
	l     []api.Event
	time  uint64
}

func (h held) have() []uint64 { return counts(h.l) }

// folded returns how many events are folded.
func (h held) folded() int {
	n := 0
	for n < len(h.l) && h.l[n].Time <= h.time {
		n++
	}
	return n
}

func (h held) floor() []uint64 { return counts(h.l[:h.folded()]) }

func (h held) clock() uint64 {
	clock := h.time
	for _, e := range h.l {
		clock = max(clock, e.Time)
	}
	return clock
}

// row returns what a node with these events knows of itself.
func (h held) row(node int) api.Row { return api.Row{Node: node, Have: h.have(), Time: h.clock()} }

// counts returns the vector of these events.
func counts(l []api.Event) []uint64 {
	v := make([]uint64, 64)
	for _, e := range l {
		v[e.Writer]++
	}
	return trimmed(v)
}

func trimmed(v []uint64) []uint64 {
	for len(v) > 0 && v[len(v)-1] == 0 {
		v = v[:len(v)-1]
	}
	return v
}

// get returns the number of a vector for a writer.
func get(v []uint64, w int) uint64 {
	if w < len(v) {
		return v[w]
	}
	return 0
}

// within reports whether no number of v is above that of o.
func within(v, o []uint64) bool {
	for w := range v {
		if v[w] > get(o, w) {
			return false
		}
	}
	return true
}

// joined returns the maximum of two vectors.
func joined(a, b []uint64) []uint64 {
	v := make([]uint64, max(len(a), len(b)))
	for w := range v {
		v[w] = max(get(a, w), get(b, w))
	}
	return trimmed(v)
}

// The following functions make encodings without the program's packages.

func text(s string) string { return string(binary.AppendUvarint(nil, uint64(len(s)))) + s }

// laid returns the encoding of an event (P6.2).
func laid(e api.Event) string {
	p := binary.AppendUvarint(nil, uint64(e.Writer))
	p = append(binary.AppendUvarint(binary.AppendUvarint(p, e.Seq), e.Time), e.Kind)
	switch e.Kind {
	case api.Set:
		p = append(p, text(e.Key)+text(string(e.Text))...)
	case api.Join:
		p = binary.AppendUvarint(p, uint64(e.Node))
	}
	return string(p)
}

// encoded returns the encoding of the fold (P11.3).
func (h held) encoded() []byte {
	l := h.l[:h.folded()]
	v := h.floor()
	p := binary.AppendUvarint(nil, uint64(len(v)))
	for _, n := range v {
		p = binary.AppendUvarint(p, n)
	}
	last, joined, retired := api.Event{}, uint64(1)<<h.nodes-1, uint64(0)
	mark, values := fnv.New64a(), map[string]string{}
	for _, e := range l {
		last = e
		mark.Write([]byte(laid(e)))
		switch e.Kind {
		case api.Set:
			values[e.Key] = string(e.Text)
		case api.Join:
			joined |= 1 << e.Node
		case api.Retire:
			retired |= 1 << e.Writer
		}
	}
	p = binary.AppendUvarint(binary.AppendUvarint(p, last.Time), uint64(last.Writer))
	for _, n := range []uint64{joined, retired, mark.Sum64()} {
		p = binary.BigEndian.AppendUint64(p, n)
	}
	return append(binary.AppendUvarint(p, uint64(len(values))), cells(values)...)
}

func cells(values map[string]string) string {
	var l []string
	for key, value := range values {
		l = append(l, text(key)+"\x01"+text(value))
	}
	slices.Sort(l) // by the keys, as all of a test have the same length
	return strings.Join(l, "")
}

// sum returns the CRC-32C of some bytes.
func sum(p []byte) uint32 { return crc32.Checksum(p, crc32.MakeTable(crc32.Castagnoli)) }

// lacks returns the letters that a replica which has the events of have needs (P17.2), without addresses.
func (h held) lacks(have []uint64, batch, chunk int) []letter.Letter {
	return h.content().lacks(have, batch, chunk)
}

// content returns what a store with these events sends from.
func (h held) content() content {
	return content{floor: h.floor(), time: h.time, base: h.encoded(), rest: h.l[h.folded():]}
}

// content is what a store sends from: how many events are folded, up to which time, the encoding of the fold, and all events
// after it, in order.
type content struct {
	floor []uint64
	time  uint64
	base  []byte
	rest  []api.Event
}

func (c content) lacks(have []uint64, batch, chunk int) []letter.Letter {
	var l []letter.Letter
	if !within(c.floor, have) {
		l = append([]letter.Letter{c.offer()}, c.chunks(chunk)...)
	}
	have = joined(have, c.floor)
	var one *letter.Letter
	size := 0
	for _, e := range c.rest {
		if e.Seq <= get(have, e.Writer) {
			continue
		}
		size += len(laid(e))
		if one == nil || len(one.Events) == batch || size > mostBytes {
			l = append(l, letter.Letter{Kind: letter.Batch, Have: have})
			one, size = &l[len(l)-1], len(laid(e))
		}
		one.Events = append(one.Events, e)
		counted := make([]uint64, max(len(have), 64))
		copy(counted, have)
		counted[e.Writer] = e.Seq
		have = trimmed(counted)
	}
	return l
}

func (h held) offer() letter.Letter             { return h.content().offer() }
func (h held) chunks(chunk int) []letter.Letter { return h.content().chunks(chunk) }

// offer returns the letter that offers the fold.
func (c content) offer() letter.Letter {
	return letter.Letter{Kind: letter.Offer, Have: c.floor, Time: c.time, Size: uint64(len(c.base)), Sum: sum(c.base)}
}

// chunks returns the letters that hold the fold, of at most so many bytes each.
func (c content) chunks(chunk int) []letter.Letter {
	p := c.base
	var l []letter.Letter
	for at := 0; at < len(p); at += chunk {
		l = append(l, letter.Letter{Kind: letter.Chunk, Size: uint64(len(p)), At: uint64(at), Bytes: p[at:min(at+chunk, len(p))]})
	}
	return l
}

// shape tells the kinds of letters, and what they hold by numbers.
func shape(l []letter.Letter) string {
	var words []string
	for _, x := range l {
		words = append(words, shapeOf(x))
	}
	return strings.Join(words, "; ")
}

func shapeOf(x letter.Letter) string {
	switch x.Kind {
	case letter.Hello, letter.Summary, letter.Ack:
		word := fmt.Sprint([]string{"hello", "summary", "", "ack"}[x.Kind-1], x.Have)
		for _, r := range x.Rows {
			word += fmt.Sprintf(" %d%v@%d", r.Node, r.Have, r.Time)
		}
		return word
	case letter.Batch:
		word := fmt.Sprintf("batch%v", x.Have)
		for _, e := range x.Events {
			word += fmt.Sprintf(" %d.%d", e.Writer, e.Seq)
		}
		return word
	case letter.Offer:
		return fmt.Sprintf("offer%v@%d", x.Have, x.Time)
	case letter.Chunk:
		return fmt.Sprintf("chunk %d+%d", x.At, len(x.Bytes))
	case letter.Abort:
		return fmt.Sprintf("abort %d", x.Why)
	}
	return fmt.Sprintf("kind %d", x.Kind)
}

// identical reports whether two letters are equal in every field; nil and empty slices are equal.
func identical(a, b letter.Letter) bool {
	return a.Kind == b.Kind && a.From == b.From && a.To == b.To && a.Mine == b.Mine && a.Serial == b.Serial &&
		slices.Equal(a.Have, b.Have) && slices.EqualFunc(a.Rows, b.Rows, sameRow) && slices.EqualFunc(a.Events, b.Events, sameEvent) &&
		a.Time == b.Time && a.Size == b.Size && a.Sum == b.Sum && a.At == b.At && string(a.Bytes) == string(b.Bytes) && a.Why == b.Why
}

func sameRow(a, b api.Row) bool {
	return a.Node == b.Node && slices.Equal(a.Have, b.Have) && a.Time == b.Time
}

func sameEvent(a, b api.Event) bool {
	return a.Writer == b.Writer && a.Seq == b.Seq && a.Time == b.Time && a.Kind == b.Kind && a.Key == b.Key &&
		string(a.Text) == string(b.Text) && math.Float64bits(a.Num) == math.Float64bits(b.Num) && a.Node == b.Node
}

// brief tells what a letter is, and of long fields only how they begin.
func brief(x letter.Letter) string {
	return fmt.Sprintf("{%.120s; from %d to %d %v %d time %d size %d sum %d at %d bytes %.20q why %d events %.80s}",
		shapeOf(x), x.From, x.To, x.Mine, x.Serial, x.Time, x.Size, x.Sum, x.At, x.Bytes, x.Why, fmt.Sprint(x.Events))
}

func wantLetters(t *testing.T, what string, got, want []letter.Letter) {
	t.Helper()
	if len(got) != len(want) {
		t.Fatalf("%s: %d letters %.300s, want %d letters %.300s", what, len(got), shape(got), len(want), shape(want))
	}
	for i := range got {
		if !identical(got[i], want[i]) {
			t.Fatalf("%s: letter %d = %s, want %s", what, i, brief(got[i]), brief(want[i]))
		}
	}
}

func wantError(t *testing.T, what string, got, want api.Errno) {
	t.Helper()
	if got != want {
		t.Fatalf("%s: %d, want %d", what, got, want)
	}
}

// peer is a replica, with what the test knows of it.
type peer struct {
	held
	node         int
	d            *disk.Disk
	s            *store.Store
	m            *matrix.Matrix
	t            *talk.Talks
	batch, chunk int
}

// settings are what a peer is made with.
type settings struct {
	node         int
	from         uint64
	batch, chunk int
}

// open returns a replica that holds these events.
func (h held) open(t *testing.T, c settings) *peer {
	t.Helper()
	p := &peer{held: h, node: c.node, d: disk.New(wide), m: matrix.New(), t: talk.New(c.from, c.batch, c.chunk), batch: c.batch, chunk: c.chunk}
	s, e := store.Open(p.d, c.node, h.nodes, segment)
	wantError(t, "Open", e, api.OK)
	p.s = s
	n, e := s.Put(nil, h.l)
	if n != len(h.l) || e != api.OK {
		t.Fatalf("Put: %d of %d events, %d", n, len(h.l), e)
	}
	if h.time > 0 {
		wantError(t, "Truncate", s.Truncate(h.time), api.OK)
	}
	return p
}

// simple returns a replica of node 0 among three, which holds the events of a text, those up to a time in its fold.
func simple(t *testing.T, events string, time uint64) *peer {
	t.Helper()
	return held{nodes: 3, l: listed(events), time: time}.open(t, settings{node: 0, from: 10, batch: 3, chunk: 20})
}

// state tells everything that a caller can ask about a replica.
func (p *peer) state() string {
	return fmt.Sprint(p.s.Have(), p.s.Clock(), p.s.Floor(), p.s.Time(), p.s.Members(), p.s.Base().Encode(), p.s.Lists(), p.m.Rows(), p.t.Coming(), p.t.Serial())
}

// hear lets a replica hear a letter, and checks the error and the letters that it returns, whose addresses follow from x.
func (p *peer) hear(t *testing.T, what string, x letter.Letter, wrong api.Errno, want ...letter.Letter) {
	t.Helper()
	l, e := p.t.Hear(p.s, p.m, x)
	if e != wrong {
		t.Fatalf("%s: Hear(%s): %d, want %d", what, brief(x), e, wrong)
	}
	wantLetters(t, what, l, p.replies(x, want))
}

// refuse lets a replica hear a letter that it must refuse without a change.
func (p *peer) refuse(t *testing.T, what string, x letter.Letter, wrong api.Errno) {
	t.Helper()
	before := p.state()
	p.hear(t, what, x, wrong)
	if after := p.state(); after != before {
		t.Fatalf("%s: Hear(%s) has changed %.300s to %.300s", what, brief(x), before, after)
	}
}

// replies returns letters with the addresses of answers to x.
func (p *peer) replies(x letter.Letter, l []letter.Letter) []letter.Letter {
	l = slices.Clone(l)
	for i := range l {
		l[i].From, l[i].To, l[i].Mine, l[i].Serial = p.node, x.From, !x.Mine, x.Serial
	}
	return l
}

// begin begins an exchange, which must succeed.
func (p *peer) begin(t *testing.T, to int) letter.Letter {
	t.Helper()
	x, e := p.t.Begin(p.s, p.m, to)
	wantError(t, fmt.Sprintf("Begin(%d)", to), e, api.OK)
	return x
}

// to addresses a letter to the replica, in an exchange that the sender began.
func (p *peer) to(from int, serial uint64, x letter.Letter) letter.Letter {
	x.From, x.To, x.Mine, x.Serial = from, p.node, true, serial
	return x
}

// hello returns a Hello of a node that has the events of have, but tells no rows.
func (p *peer) hello(from int, serial uint64, have ...uint64) letter.Letter {
	return p.to(from, serial, letter.Letter{Kind: letter.Hello, Have: have})
}

// events returns a Batch.
func (p *peer) events(from int, serial uint64, have []uint64, l ...api.Event) letter.Letter {
	return p.to(from, serial, letter.Letter{Kind: letter.Batch, Have: have, Events: l})
}

// ack returns the Ack of a replica that knows only of itself.
func (p *peer) ack() letter.Letter {
	return letter.Letter{Kind: letter.Ack, Have: p.s.Have(), Rows: []api.Row{{Node: p.node, Have: p.s.Have(), Time: p.s.Clock()}}}
}

func abort(e api.Errno) letter.Letter { return letter.Letter{Kind: letter.Abort, Why: e} }

package talk_test

import (
	"fmt"
	"math"
	"slices"
	"strings"
	"testing"

	"anabranch/api"
	"anabranch/letter"
	"anabranch/matrix"
	"anabranch/talk"
)

// The tests of P17.3, but for those of folds.

const (
	begun = 11 // the serial number of an exchange that busy has begun with node 1
	heard = 5  // that of one which it has heard of from there
)

// busy returns a replica of node 0 among three, which has begun an exchange with node 1, and heard of one that node 1 began.
func busy(t *testing.T, events string, time uint64) *peer {
	t.Helper()
	p := simple(t, events, time)
	if x := p.begin(t, 1); x.Serial != begun {
		t.Fatalf("the serial is %d", x.Serial)
	}
	p.hear(t, "the first letter", p.to(1, heard, letter.Letter{Kind: letter.Ack}), api.OK)
	return p
}

// both returns a letter of node 1 to a busy replica, in each of their two exchanges.
func (p *peer) both(x letter.Letter) []letter.Letter {
	mine := p.to(1, heard, x)
	other := p.to(1, begun, x)
	other.Mine = false
	return []letter.Letter{mine, other}
}

// full returns a letter in which every field has a value, to a replica that has the event 0.1@1 and is of node 0: whatever its
// kind, it would be learnt from, put, expected or received.
func full(kind byte) letter.Letter {
	x := letter.Letter{Kind: kind, From: 1, To: 0, Mine: true, Serial: heard, Have: []uint64{1}, Rows: []api.Row{{Node: 1, Have: []uint64{1, 1}, Time: 7}},
		Events: listed("1.1@5"), Time: 9, Size: 8, Sum: 3, At: 0, Bytes: []byte("bytes"), Why: api.ErrGap}
	if kind == letter.Offer {
		x.Have = []uint64{1, 1}
	}
	return x
}

// TestAddresses: a letter to another node, from oneself or from no node is none for this replica, whatever is in it.
func TestAddresses(t *testing.T) {
	for _, kind := range append([]byte{0, 8, 255}, kinds...) {
		for _, serial := range []uint64{0, heard - 1, heard, heard + 1, begun, begun + 1, math.MaxUint64} {
			p := busy(t, "0.1@1", 0)
			for _, mine := range []bool{true, false} {
				x := full(kind)
				x.Mine, x.Serial = mine, serial
				for _, to := range append([]int{1, 2, 63}, noNodes...) {
					x.To = to
					p.refuse(t, "to another node", x, api.ErrArg)
				}
				x.To = 0
				for _, from := range append([]int{0}, noNodes...) {
					x.From = from
					p.refuse(t, "from no other node", x, api.ErrArg)
				}
				x.To = 1
				p.refuse(t, "from no other node to another one", x, api.ErrArg)
			}
		}
	}
}

// TestOwnNode: which node is the own one is told by the store.
func TestOwnNode(t *testing.T) {
	for _, own := range []int{0, 1, 2, 63} {
		p := held{nodes: 3, l: listed("0.1@1")}.open(t, settings{node: own, batch: 1, chunk: 1})
		for _, from := range []int{0, 1, 2, 3, 63} {
			x := full(letter.Ack)
			x.From, x.To = from, own
			if from == own {
				p.refuse(t, "from itself", x, api.ErrArg)
			} else {
				p.hear(t, "from another node", x, api.OK)
			}
		}
	}
}

// answer is what a letter full of everything must lead to, if it belongs to an exchange that goes on.
func answer(kind byte, mine bool) api.Errno {
	switch {
	case kind == letter.Hello && mine, kind == letter.Summary && !mine, kind == letter.Batch, kind == letter.Ack, kind == letter.Offer, kind == letter.Abort:
		return api.OK
	case kind == letter.Chunk:
		return api.ErrOld // there was no Offer
	}
	return api.ErrArg
}

// wantAnswer checks with which error a replica hears a letter.
func (p *peer) wantAnswer(t *testing.T, what string, x letter.Letter, want api.Errno) {
	t.Helper()
	if _, e := p.t.Hear(p.s, p.m, x); e != want {
		t.Fatalf("%s: Hear(%s): %d, want %d", what, brief(x), e, want)
	}
}

// TestSerialsOfOthers: of exchanges that another node began, letters of those before the last one that was heard are late.
func TestSerialsOfOthers(t *testing.T) {
	for _, kind := range append([]byte{0, 8, 255}, kinds...) {
		for _, serial := range []uint64{0, 1, heard - 1} {
			p := busy(t, "0.1@1", 0)
			x := full(kind)
			x.Serial = serial
			p.refuse(t, "late", x, api.ErrOld)
		}
		for _, serial := range []uint64{heard, heard + 1, begun, api.End, math.MaxUint64} {
			p := busy(t, "0.1@1", 0)
			x := full(kind)
			x.Serial = serial
			if kind == letter.Batch {
				x.Events = listed("1.1@5 1.2@6")
			}
			p.wantAnswer(t, "not late", x, answer(kind, true))
			x = full(letter.Ack)
			for _, x.Serial = range []uint64{serial - 1, heard - 1} {
				want := api.ErrOld
				if x.Serial >= heard && answer(kind, true) != api.OK {
					want = api.OK // a letter that was refused has changed nothing
				}
				p.wantAnswer(t, "below", x, want)
			}
			x.Serial = serial
			p.wantAnswer(t, "at the last one", x, api.OK)
		}
	}
}

// TestSerialsOfEach: only letters from the same node, and of exchanges that it began, count.
func TestSerialsOfEach(t *testing.T) {
	p := busy(t, "0.1@1", 0)
	for from := 1; from < 64; from++ {
		serial := uint64(1000 - from)
		ack := p.to(from, serial, letter.Letter{Kind: letter.Ack})
		p.hear(t, "the first one", ack, api.OK)
		p.hear(t, "again", ack, api.OK)
		ack.Serial--
		p.refuse(t, "below", ack, api.ErrOld)
	}
	p.begin(t, 2)
	x := p.begin(t, 1)
	for from, serial := range map[int]uint64{1: x.Serial, 2: begun + 1} {
		ack := p.to(from, serial, letter.Letter{Kind: letter.Ack})
		ack.Mine = false
		p.hear(t, "an answer", ack, api.OK)
	}
	p = simple(t, "", 0)
	x = p.begin(t, 1)
	ack := p.to(1, x.Serial, letter.Letter{Kind: letter.Ack})
	ack.Mine = false
	p.hear(t, "an answer", ack, api.OK)
	p.hear(t, "an exchange with a lower number, begun by the other node", p.to(1, 0, letter.Letter{Kind: letter.Ack}), api.OK)
}

// TestSerialsOfAnswers: of exchanges that the replica itself began, only letters of the last one with that node are heard.
func TestSerialsOfAnswers(t *testing.T) {
	for _, kind := range append([]byte{0, 8, 255}, kinds...) {
		x := full(kind)
		x.Mine = false
		p := simple(t, "0.1@1", 0)
		for _, x.Serial = range []uint64{0, 1, 10, 11, math.MaxUint64} {
			p.refuse(t, "none was begun", x, api.ErrOld)
		}
		if h := p.begin(t, 2); h.Serial != 11 {
			t.Fatalf("the serial is %d", h.Serial)
		}
		for _, x.Serial = range []uint64{0, 10, 11, 12} {
			p.refuse(t, "one was begun with another node", x, api.ErrOld)
		}
		p.begin(t, 1)
		p.begin(t, 2)
		p.begin(t, 1)
		p.begin(t, 3)
		p.t.Begin(p.s, p.m, 0)
		p.t.Begin(p.s, p.m, 64)
		for _, x.Serial = range []uint64{0, 1, 10, 11, 12, 13, 15, 16, math.MaxUint64} {
			p.refuse(t, "others", x, api.ErrOld)
		}
		x.Serial = 14
		p.wantAnswer(t, "the last one", x, answer(kind, false))
		x = full(letter.Abort)
		x.Mine = false
		for from, serial := range map[int]uint64{1: 14, 2: 13, 3: 15} {
			x.From, x.Serial = from, serial
			p.hear(t, "still the last one", x, api.OK)
		}
	}
}

// TestFirstSerial: an exchange that is numbered from 0 on is not one that was begun before.
func TestFirstSerial(t *testing.T) {
	p := held{nodes: 2}.open(t, settings{batch: 1, chunk: 1})
	x := full(letter.Ack)
	x.Mine, x.Serial = false, 0
	p.refuse(t, "none was begun", x, api.ErrOld)
	p.begin(t, 1)
	p.refuse(t, "the one before the first", x, api.ErrOld)
	x.Serial = 1
	p.hear(t, "the first one", x, api.OK)
}

// TestRefusedLettersDoNotCount: with an error, nothing has changed, also not which exchange is the last one.
func TestRefusedLettersDoNotCount(t *testing.T) {
	for _, x := range []letter.Letter{
		{Kind: letter.Summary}, {Kind: 0}, {Kind: 8},
		{Kind: letter.Chunk, Size: 9},
		{Kind: letter.Offer, Have: []uint64{1}},
		{Kind: letter.Batch, Have: []uint64{2}},
		{Kind: letter.Batch, Events: listed("2.5@9")},
		{Kind: letter.Batch, Events: listed("0.1@1")},
	} {
		p := busy(t, "0.1@1", 0)
		y := p.to(1, 99, x)
		if _, e := p.t.Hear(p.s, p.m, y); e == api.OK {
			t.Fatalf("%s is not refused", brief(y))
		}
		p.hear(t, "the exchange goes on", p.to(1, heard, letter.Letter{Kind: letter.Ack}), api.OK)
		p.refuse(t, "late", p.to(1, heard-1, letter.Letter{Kind: letter.Ack}), api.ErrOld)
	}
}

// TestKinds: a Hello is for who has not begun the exchange, a Summary for who has, and there are no other kinds.
func TestKinds(t *testing.T) {
	for kind := range 256 {
		p := busy(t, "0.1@1", 0)
		for _, x := range p.both(full(byte(kind))) {
			if answer(byte(kind), x.Mine) == api.ErrArg {
				p.refuse(t, "a kind that cannot be", x, api.ErrArg)
				x.Serial-- // late, which is told first
				p.refuse(t, "a late letter of a kind that cannot be", x, api.ErrOld)
			} else if kind < 1 || kind > 7 {
				t.Fatalf("kind %d", kind)
			}
		}
	}
}

// reports are rows that a letter tells, what is known then of the nodes but 0, and what is known in all, of one that had
// 2[0 1]@3 and 40[5]@0 before, and has the events of [1 1] and the clock 4 itself.
var reports = []struct {
	rows []api.Row
	want string
}{
	{nil, "0[1 1]@4 2[0 1]@3 40[5]@0"},
	{[]api.Row{{Node: 1}}, "0[1 1]@4 2[0 1]@3 40[5]@0"},
	{[]api.Row{{Node: 1, Have: []uint64{1, 2}, Time: 9}}, "0[1 1]@4 1[1 2]@9 2[0 1]@3 40[5]@0"},
	{[]api.Row{{Node: 2, Have: []uint64{1, 0, 0}, Time: 2}}, "0[1 1]@4 2[1 1]@3 40[5]@0"},
	{[]api.Row{{Node: 2, Have: []uint64{0, 1, 7}, Time: 5}, {Node: 63, Time: 8}}, "0[1 1]@4 2[0 1 7]@5 40[5]@0 63[]@8"},
	{[]api.Row{{Node: 40, Have: []uint64{4}, Time: 1}, {Node: 1, Time: 2}, {Node: 40, Have: []uint64{6}}, {Node: 1, Time: 1}}, "0[1 1]@4 1[]@2 2[0 1]@3 40[6]@1"},
	{[]api.Row{{Node: 0, Have: []uint64{0, 0, 2}, Time: 3}}, "0[1 1 2]@4 2[0 1]@3 40[5]@0"},
	{[]api.Row{{Node: -1, Have: []uint64{9}, Time: 9}, {Node: 64, Have: []uint64{9}, Time: 9}}, "0[1 1]@4 2[0 1]@3 40[5]@0"},
}

// reporting returns a busy replica with these events, that knows what reports says.
func reporting(t *testing.T) *peer {
	t.Helper()
	p := busy(t, "0.1@1 1.1@4", 0)
	p.m = matrix.New()
	p.m.Raise(api.Row{Node: 2, Have: []uint64{0, 1}, Time: 3})
	p.m.Raise(api.Row{Node: 40, Have: []uint64{5}})
	return p
}

// known tells what is in a matrix.
func known(m *matrix.Matrix) string {
	word, _ := strings.CutPrefix(shape([]letter.Letter{{Kind: letter.Ack, Rows: m.Rows()}}), "ack[] ")
	return word
}

// TestHello: its rows are learnt before the answer, a Summary and what the sender lacks.
func TestHello(t *testing.T) {
	for _, c := range reports {
		p := reporting(t)
		x := p.hello(1, 6, 1)
		x.Rows = c.rows
		l, e := p.t.Hear(p.s, p.m, x)
		wantError(t, "Hello", e, api.OK)
		if got, want := shape(l), "summary[1 1] "+c.want+"; batch[1] 1.1"; got != want {
			t.Errorf("the answer to a Hello with rows %v is %s, want %s", c.rows, got, want)
		}
		want := []letter.Letter{{Kind: letter.Summary, Have: []uint64{1, 1}, Rows: p.m.Rows()}, {Kind: letter.Batch, Have: []uint64{1}, Events: listed("1.1@4")}}
		wantLetters(t, "Hello", l, p.replies(x, want))
		if got := known(p.m); got != c.want {
			t.Errorf("after a Hello with rows %v: %s, want %s", c.rows, got, c.want)
		}
	}
}

// TestSummary: its rows are learnt, and what its sender lacks is sent to it.
func TestSummary(t *testing.T) {
	for _, c := range reports {
		p := reporting(t)
		x := letter.Letter{Kind: letter.Summary, From: 1, Serial: begun, Have: []uint64{0, 1}, Rows: c.rows}
		p.hear(t, "Summary", x, api.OK, letter.Letter{Kind: letter.Batch, Have: []uint64{0, 1}, Events: listed("0.1@1")})
		talk.Note(p.s, p.m)
		if got := known(p.m); got != c.want {
			t.Errorf("after a Summary with rows %v: %s, want %s", c.rows, got, c.want)
		}
	}
}

// TestAck: its rows are learnt, and nothing is sent.
func TestAck(t *testing.T) {
	for _, c := range reports {
		for _, mine := range []bool{false, true} {
			p := reporting(t)
			x := p.both(letter.Letter{Kind: letter.Ack, Have: nil, Rows: c.rows})[0]
			if !mine {
				x = p.both(x)[1]
			}
			p.hear(t, "Ack", x, api.OK)
			talk.Note(p.s, p.m)
			if got := known(p.m); got != c.want {
				t.Errorf("after an Ack with rows %v: %s, want %s", c.rows, got, c.want)
			}
		}
	}
}

// TestWhatAKindDoesNotUse: only the rows of reports are learnt, only the events of a Batch are put, and nothing but the rows
// tells what the sender has.
func TestWhatAKindDoesNotUse(t *testing.T) {
	for _, kind := range kinds {
		for i, mine := range []bool{true, false} {
			p := busy(t, "0.1@1", 0)
			x := p.both(full(kind))[i]
			if answer(kind, mine) == api.OK {
				p.wantAnswer(t, "", x, api.OK)
			}
			learns := answer(kind, mine) == api.OK && (kind == letter.Hello || kind == letter.Summary || kind == letter.Ack)
			if got := len(p.m.Row(1).Have) > 0; got != learns {
				t.Errorf("kind %d: the rows are learnt: %v", kind, got)
			}
			if got := p.s.Have().Get(1) > 0; got != (kind == letter.Batch) {
				t.Errorf("kind %d: the events are put: %v", kind, got)
			}
		}
	}
	p := busy(t, "0.1@1", 0)
	x := p.hello(1, 6, 7, 7)
	p.hear(t, "a Hello without rows", x, api.OK, letter.Letter{Kind: letter.Summary, Have: []uint64{1}, Rows: []api.Row{{Node: 0, Have: []uint64{1}, Time: 1}}})
	if got := known(p.m); got != "0[1]@1" {
		t.Errorf("a Hello without rows has told %s", got)
	}
}

// TestBatch: what is put, and what is answered.
func TestBatch(t *testing.T) {
	base := func(v ...uint64) []uint64 { return v }
	const ready = "ack[2 2] 0[2 2]@5"
	for _, c := range []struct {
		base   []uint64
		events string
		wrong  api.Errno
		answer string
		have   []uint64
	}{
		{nil, "", api.OK, ready, base(2, 2)},
		{base(2, 2), "", api.OK, ready, base(2, 2)},
		{base(2, 2, 0, 0), "", api.OK, ready, base(2, 2)},
		{base(3, 2), "", api.ErrGap, "abort 9", base(2, 2)},
		{base(0, 0, 0, 1), "", api.ErrGap, "abort 9", base(2, 2)},
		{base(2, 2), "1.3@6", api.OK, "ack[2 3] 0[2 3]@6", base(2, 3)},
		{nil, "1.3@6", api.OK, "ack[2 3] 0[2 3]@6", base(2, 3)},
		{base(2, 3), "1.4@6", api.ErrGap, "abort 9", base(2, 2)},
		{base(2, 3), "1.3@6", api.ErrGap, "abort 9", base(2, 2)},
		{base(2, 3), "1.1@2", api.ErrGap, "abort 9", base(2, 2)},
		{nil, "1.3@6 2.1@6 1.4@7 2.2@9", api.OK, "ack[2 4 2] 0[2 4 2]@9", base(2, 4, 2)},
		{nil, "1.1@2", api.ErrOld, ready, base(2, 2)},
		{nil, "0.1@1", api.ErrOld, ready, base(2, 2)},
		{base(1), "0.1@1 1.1@2 0.2@3 1.2@5", api.ErrOld, ready, base(2, 2)},
		{base(1), "0.2@3 1.2@5 2.1@6", api.OK, "ack[2 2 1] 0[2 2 1]@6", base(2, 2, 1)},
		{nil, "2.1@1 0.2@3 1.2@5", api.ErrOld, "abort 10", base(2, 2)}, // it is not after the fold
		{nil, "1.3@6 1.2@5", api.ErrArg, "abort 1", base(2, 2)},
		{nil, "1.4@6", api.ErrGap, "abort 9", base(2, 2)},
		{nil, "1.3@6 2.1@7 1.5@8 2.2@9", api.ErrGap, "abort 9", base(2, 3, 1)},
		{nil, "1.3@5", api.ErrOld, "abort 10", base(2, 2)},
		{nil, "1.2@5 1.3@5", api.ErrOld, "abort 10", base(2, 2)},
		{nil, "3.1@6", api.ErrMember, "abort 11", base(2, 2)},
		{nil, "1.3@6+3 3.1@7", api.OK, "ack[2 3 0 1] 0[2 3 0 1]@7", base(2, 3, 0, 1)},
		{nil, "2.1@6- 2.2@7", api.ErrRetired, "abort 12", base(2, 2, 1)},
		{nil, "2.0@6", api.ErrArg, "abort 1", base(2, 2)},
		{nil, "64.1@6", api.ErrArg, "abort 1", base(2, 2)},
		{nil, "2.1@9223372036854775808", api.ErrExhausted, "abort 8", base(2, 2)},
		{nil, "0.3@6", api.OK, "ack[3 2] 0[3 2]@6", base(3, 2)}, // its own, which it may have lost
	} {
		for i := range 2 {
			p := busy(t, "0.1@1 1.1@2 0.2@3 1.2@5", 1)
			p.m = matrix.New()
			x := p.both(letter.Letter{Kind: letter.Batch, Have: c.base, Events: listed(c.events)})[i]
			l, e := p.t.Hear(p.s, p.m, x)
			if e != c.wrong || shape(l) != c.answer || !slices.Equal(p.s.Have(), c.have) {
				t.Errorf("a batch of %q on %v: %s, %d, then %v, want %s, %d, %v", c.events, c.base, shape(l), e, p.s.Have(), c.answer, c.wrong, c.have)
			}
			want := []letter.Letter{abort(c.wrong)}
			if strings.HasPrefix(c.answer, "ack") {
				want = []letter.Letter{p.ack()}
			} else if got := known(p.m); got != "ack[]" {
				t.Errorf("with an Abort %s is known", got)
			}
			wantLetters(t, "Batch", l, p.replies(x, want))
		}
	}
}

// TestBatchOfWrongEvents: what store.Put says of them is told.
func TestBatchOfWrongEvents(t *testing.T) {
	for _, c := range []struct {
		e    api.Event
		want api.Errno
	}{
		{api.Event{Writer: 1, Seq: 1, Time: 2, Kind: 9}, api.ErrArg},
		{api.Event{Writer: 1, Seq: 1, Time: 2, Kind: api.Set}, api.ErrLong},
		{api.Event{Writer: 1, Seq: 1, Time: 2, Kind: api.Drop, Key: strings.Repeat("k", 65)}, api.ErrLong},
		{api.Event{Writer: 1, Seq: 1, Time: 2, Kind: api.Join, Node: 64}, api.ErrArg},
		{api.Event{}, api.ErrArg},
	} {
		p := simple(t, "0.1@1", 0)
		x := p.events(1, heard, nil, c.e)
		p.hear(t, "a wrong event", x, c.want, abort(c.want))
	}
}

// TestBatchWithoutRoom: the sender is told that the disk is full; that it has stopped it is not told.
func TestBatchWithoutRoom(t *testing.T) {
	p := simple(t, "0.1@1", 0)
	p.d.Widen(0)
	before := p.state()
	x := p.events(1, heard, nil, listed("1.1@2")...)
	p.hear(t, "without room", x, api.ErrFull, abort(api.ErrFull))
	if after := p.state(); after != before {
		t.Errorf("without room %s became %s", before, after)
	}
	p.d.Widen(wide)
	p.held.l = listed("0.1@1 1.1@2")
	p.hear(t, "with room", x, api.OK, letter.Letter{Kind: letter.Ack, Have: p.have(), Rows: []api.Row{p.row(0)}})

	p.d.Arm(0, 0)
	p.hear(t, "the disk stops", p.events(1, heard, nil, listed("1.2@3")...), api.ErrStop)
	p.hear(t, "the disk has stopped", p.events(1, heard, nil, listed("1.2@3")...), api.ErrStop)
}

// TestAnswersAreAddressed: to the sender, in the same exchange, which the replica has begun if the sender has not.
func TestAnswersAreAddressed(t *testing.T) {
	for _, own := range []int{0, 7, 63} {
		for _, from := range []int{1, 8, 62} {
			p := held{nodes: 2, l: listed("0.1@1 1.1@2"), time: 1}.open(t, settings{node: own, from: 20, batch: 1, chunk: 50})
			hello := p.hello(from, 77)
			summary := p.hello(from, p.begin(t, from).Serial)
			summary.Kind, summary.Mine = letter.Summary, false
			for _, x := range []letter.Letter{hello, summary, p.events(from, 77, nil), p.events(from, 77, []uint64{9})} {
				l, _ := p.t.Hear(p.s, p.m, x)
				if len(l) == 0 {
					t.Errorf("no answers to %s", brief(x))
				}
				for _, y := range l {
					if y.From != own || y.To != from || y.Mine == x.Mine || y.Serial != x.Serial {
						t.Errorf("the answer to %s is %s", brief(x), brief(y))
					}
				}
			}
		}
	}
}

// TestWhole: an exchange of two replicas, written out letter by letter.
func TestWhole(t *testing.T) {
	a := held{nodes: 2, l: listed("0.1@1 0.2@2 0.3@3")}.open(t, settings{node: 0, from: 10, batch: 2, chunk: 9})
	b := held{nodes: 2, l: listed("1.1@1 1.2@2")}.open(t, settings{node: 1, from: 90, batch: 9, chunk: 9})
	net := []letter.Letter{a.begin(t, 1)}
	var got []string
	for len(net) > 0 {
		x := net[0]
		p := []*peer{a, b}[x.To]
		l, e := p.t.Hear(p.s, p.m, x)
		wantError(t, brief(x), e, api.OK)
		got = append(got, fmt.Sprintf("%d: %s", x.From, shapeOf(x)))
		net = append(net[1:], l...)
	}
	want := []string{
		"0: hello[3] 0[3]@3",
		"1: summary[0 2] 0[3]@3 1[0 2]@2",
		"1: batch[3] 1.1 1.2",
		"0: batch[0 2] 0.1 0.2",
		"0: batch[2 2] 0.3",
		"0: ack[3 2] 0[3 2]@3 1[0 2]@2",
		"1: ack[2 2] 0[3]@3 1[2 2]@2",
		"1: ack[3 2] 0[3]@3 1[3 2]@3",
	}
	if !slices.Equal(got, want) {
		t.Errorf("the letters are\n%s\nwant\n%s", strings.Join(got, "\n"), strings.Join(want, "\n"))
	}
	if a.state() == b.state() || !slices.Equal(a.s.Have(), []uint64{3, 2}) || !slices.Equal(b.s.Have(), []uint64{3, 2}) {
		t.Errorf("they have %v and %v", a.s.Have(), b.s.Have())
	}
}

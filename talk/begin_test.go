package talk_test

import (
	"fmt"
	"math"
	"slices"
	"testing"

	"anabranch/api"
	"anabranch/letter"
	"anabranch/matrix"
	"anabranch/talk"
)

// The tests of P17.1.

func TestExample(t *testing.T) {
	for _, from := range []uint64{0, 1, 10, 127, 7 << 32, api.End - 1} {
		p := held{nodes: 2}.open(t, settings{from: from, batch: 1, chunk: 1})
		x, e := p.t.Begin(p.s, p.m, 1)
		wantError(t, "Begin", e, api.OK)
		wantLetters(t, "Begin", []letter.Letter{x}, []letter.Letter{{Kind: letter.Hello, From: 0, To: 1, Mine: true, Serial: from + 1}})
	}
}

// wantSerial checks the last serial number used.
func (p *peer) wantSerial(t *testing.T, want uint64) {
	t.Helper()
	if got := p.t.Serial(); got != want {
		t.Fatalf("Serial() = %d, want %d", got, want)
	}
}

// TestBegin: a Hello with a report, whose serial numbers follow each other whomever it is to.
func TestBegin(t *testing.T) {
	p := held{nodes: 3, l: listed("0.1@1 1.1@1 0.2@4 2.1@4 0.3@6"), time: 1}.open(t, settings{node: 2, from: 41, batch: 3, chunk: 9})
	p.m.Raise(api.Row{Node: 0, Have: []uint64{7}, Time: 9})
	p.m.Raise(api.Row{Node: 63, Have: []uint64{0, 0, 1}})
	p.wantSerial(t, 41)
	rows := []api.Row{{Node: 0, Have: []uint64{7}, Time: 9}, {Node: 2, Have: []uint64{3, 1, 1}, Time: 6}, {Node: 63, Have: []uint64{0, 0, 1}}}
	for i, to := range []int{0, 1, 0, 63, 3, 62} {
		serial := uint64(42 + i)
		x := p.begin(t, to)
		want := letter.Letter{Kind: letter.Hello, From: 2, To: to, Mine: true, Serial: serial, Have: []uint64{3, 1, 1}, Rows: rows}
		wantLetters(t, "Begin", []letter.Letter{x}, []letter.Letter{want})
		p.wantSerial(t, serial)
		if !slices.EqualFunc(p.m.Rows(), rows, sameRow) {
			t.Errorf("Rows() = %v, want %v", p.m.Rows(), rows)
		}
	}
	if x, e := p.s.Write(listed("0.1@1")[0]); e != api.OK {
		t.Fatal(x, e)
	}
	x := p.begin(t, 1)
	if got := shape([]letter.Letter{x}); got != "hello[3 1 2] 0[7]@9 2[3 1 2]@7 63[0 0 1]@0" {
		t.Errorf("a later Begin: %s", got)
	}
}

// TestBeginNone: a node that there is not, or the store's own, whether or not there is a further serial number.
func TestBeginNone(t *testing.T) {
	for _, from := range []uint64{0, 7, api.End - 1, api.End, math.MaxUint64} {
		for _, own := range []int{0, 1, 63} {
			p := held{nodes: 2, l: listed("0.1@1")}.open(t, settings{node: own, from: from, batch: 1, chunk: 1})
			before := p.state()
			for _, to := range append([]int{own}, noNodes...) {
				x, e := p.t.Begin(p.s, p.m, to)
				wantError(t, fmt.Sprintf("Begin(%d) of %d", to, own), e, api.ErrArg)
				wantLetters(t, "Begin", []letter.Letter{x}, []letter.Letter{{}})
				if after := p.state(); after != before {
					t.Fatalf("Begin(%d) of %d has changed %s to %s", to, own, before, after)
				}
			}
			p.wantSerial(t, from)
		}
	}
}

// TestNoFurtherSerial: End is the last serial number.
func TestNoFurtherSerial(t *testing.T) {
	for _, from := range []uint64{api.End - 2, api.End - 1, api.End, api.End + 1, math.MaxUint64 - 1, math.MaxUint64} {
		p := held{nodes: 2, l: listed("0.1@1")}.open(t, settings{from: from, batch: 1, chunk: 1})
		serial := from
		for serial < api.End {
			serial++
			if x := p.begin(t, 1); x.Serial != serial {
				t.Errorf("the serial behind %d is %d", serial-1, x.Serial)
			}
		}
		p.s.Write(listed("0.1@1")[0])
		before := p.state()
		for _, to := range []int{1, 2, 63, 1} {
			x, e := p.t.Begin(p.s, p.m, to)
			wantError(t, "Begin", e, api.ErrExhausted)
			wantLetters(t, "Begin", []letter.Letter{x}, []letter.Letter{{}})
		}
		p.wantSerial(t, serial)
		if after := p.state(); after != before {
			t.Fatalf("Begin has changed %s to %s", before, after)
		}
		if serial == api.End {
			p.hear(t, "the last exchange", letter.Letter{Kind: letter.Ack, From: 1, Serial: api.End}, fits(from))
		}
	}
}

// fits returns whether an exchange could be begun behind from, as the error with which an answer to it is heard.
func fits(from uint64) api.Errno {
	if from < api.End {
		return api.OK
	}
	return api.ErrOld
}

// TestNote: the store's own row, and no other, becomes what the store has, and its clock.
func TestNote(t *testing.T) {
	for _, h := range []held{
		{nodes: 2},
		{nodes: 2, l: listed("0.1@3")},
		{nodes: 2, l: listed("0.1@3 0.2@5 1.1@9")},
		{nodes: 3, l: listed("0.1@3 2.1@3 0.2@5 1.1@9"), time: 3},
		{nodes: 3, l: listed("0.1@3 2.1@3 0.2@5 1.1@9"), time: 9},
	} {
		for _, node := range []int{0, 1, 63} {
			p := h.open(t, settings{node: node, batch: 1, chunk: 1})
			p.m.Raise(api.Row{Node: 30, Have: []uint64{9}, Time: 9})
			var want []api.Row
			if len(h.l) > 0 {
				want = append(want, h.row(node))
			}
			want = append(want, api.Row{Node: 30, Have: []uint64{9}, Time: 9})
			slices.SortFunc(want, func(a, b api.Row) int { return a.Node - b.Node })
			for range 2 {
				talk.Note(p.s, p.m)
				if got := p.m.Rows(); !slices.EqualFunc(got, want, sameRow) {
					t.Errorf("Rows() = %v, want %v", got, want)
				}
			}
		}
	}
}

// TestNoteRaises: what is known of the own node is not lowered, but raised by what is new.
func TestNoteRaises(t *testing.T) {
	p := simple(t, "0.1@3 1.1@4", 0)
	p.m.Raise(api.Row{Node: 0, Have: []uint64{0, 5}, Time: 2})
	talk.Note(p.s, p.m)
	if got := p.m.Row(0); !sameRow(got, api.Row{Node: 0, Have: []uint64{1, 5}, Time: 4}) {
		t.Errorf("the own row is %v", got)
	}
	p.m.Raise(api.Row{Node: 0, Time: 9})
	p.s.Write(listed("0.1@1")[0])
	talk.Note(p.s, p.m)
	if got := p.m.Row(0); !sameRow(got, api.Row{Node: 0, Have: []uint64{2, 5}, Time: 9}) {
		t.Errorf("the own row is %v", got)
	}
}

// TestNoteClock: the clock of a store may be ahead of all its events.
func TestNoteClock(t *testing.T) {
	p := simple(t, "", 0)
	h := held{nodes: 3, l: listed("0.1@1 1.1@2"), time: 2}
	wantError(t, "Install", p.s.Install(h.encoded(), 8), api.OK)
	talk.Note(p.s, p.m)
	if got := p.m.Row(0); !sameRow(got, api.Row{Node: 0, Have: []uint64{1, 1}, Time: 8}) {
		t.Errorf("the own row is %v", got)
	}
}

// TestBatchAndChunk: what New is given is limited to 1 from below, and chunk also from above.
func TestBatchAndChunk(t *testing.T) {
	h := held{nodes: 2, l: listed("0.1@1 0.2@2 0.3@3 0.4@4 0.5@5"), time: 1}
	size := len(h.encoded())
	for _, c := range []struct{ batch, want int }{{math.MinInt, 1}, {-1, 1}, {0, 1}, {1, 1}, {2, 2}, {3, 3}, {4, 4}, {5, 5}, {1 << 40, 5}, {math.MaxInt, 5}} {
		p := h.open(t, settings{batch: c.batch, chunk: 10})
		wantLacked(t, p, nil, h.lacks(nil, c.want, 10))
	}
	for _, c := range []struct{ chunk, want int }{{math.MinInt, 1}, {-1, 1}, {0, 1}, {1, 1}, {2, 2}, {3, 3}, {size, size}, {mostChunk, size}, {math.MaxInt, size}} {
		p := h.open(t, settings{batch: 2, chunk: c.chunk})
		wantLacked(t, p, nil, h.lacks(nil, 2, c.want))
	}
	h = large(3)
	for _, c := range []struct{ chunk, want int }{{mostChunk - 1, mostChunk - 1}, {mostChunk, mostChunk}, {mostChunk + 1, mostChunk}, {2 * mostChunk, mostChunk}, {math.MaxInt, mostChunk}} {
		p := h.open(t, settings{batch: 2, chunk: c.chunk})
		wantLacked(t, p, nil, h.lacks(nil, 2, c.want))
	}
}

// large returns what holds so many events, of writers of their own, whose texts are as long as they may be. All are folded.
func large(n int) held {
	h := held{nodes: n, time: uint64(n)}
	for w := range n {
		h.l = append(h.l, api.Event{Writer: w, Seq: 1, Time: uint64(w + 1), Kind: api.Set, Key: "k" + string(rune('0'+w)), Text: make([]byte, api.MaxText)})
	}
	return h
}

// TestNilMatrix: without a matrix nothing is known, but letters are sent all the same.
func TestNilMatrix(t *testing.T) {
	p := simple(t, "0.1@1 1.1@2", 0)
	p.m = nil
	talk.Note(p.s, nil)
	talk.Note(nil, nil)
	talk.Note(nil, matrix.New())
	x := p.begin(t, 1)
	wantLetters(t, "Begin", []letter.Letter{x}, []letter.Letter{{Kind: letter.Hello, To: 1, Mine: true, Serial: 11, Have: []uint64{1, 1}}})
	hello := p.hello(1, 5)
	hello.Rows = []api.Row{{Node: 1, Time: 5}}
	p.hear(t, "Hello", hello, api.OK, append([]letter.Letter{{Kind: letter.Summary, Have: []uint64{1, 1}}}, p.lacks(nil, 3, 20)...)...)
}

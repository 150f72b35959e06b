package talk_test

import (
	"fmt"
	"math/rand"
	"slices"
	"testing"

	"anabranch/api"
	"anabranch/letter"
	"anabranch/vector"
)

// The tests of P17.2.

// wantLacked checks the letters that a replica sends to one that has the events of have: what it answers to a Hello behind
// its Summary, and to a Summary.
func wantLacked(t *testing.T, p *peer, have []uint64, want []letter.Letter) {
	t.Helper()
	hello := p.hello(40, 1, have...)
	l, e := p.t.Hear(p.s, p.m, hello)
	wantError(t, "Hello", e, api.OK)
	if len(l) == 0 || l[0].Kind != letter.Summary {
		t.Fatalf("the answers to a Hello are %.100s", shape(l))
	}
	wantLetters(t, fmt.Sprintf("behind the Summary, for %v", have), l[1:], p.replies(hello, want))
	summary := p.hello(41, p.begin(t, 41).Serial, have...)
	summary.Kind, summary.Mine = letter.Summary, false
	p.hear(t, fmt.Sprintf("Summary of %v", have), summary, api.OK, want...)
}

// TestLacks: written out for all vectors of a receiver.
func TestLacks(t *testing.T) {
	const events = "0.1@1 1.1@2 0.2@3 2.1@3 0.3@5 0.4@6 1.2@6 1.3@7"
	for _, c := range []struct {
		time uint64
		have []uint64
		want string
	}{
		{0, nil, "batch[] 0.1 1.1 0.2; batch[2 1] 2.1 0.3 0.4; batch[4 1 1] 1.2 1.3"},
		{0, []uint64{0, 0, 0}, "batch[] 0.1 1.1 0.2; batch[2 1] 2.1 0.3 0.4; batch[4 1 1] 1.2 1.3"},
		{0, []uint64{4}, "batch[4] 1.1 2.1 1.2; batch[4 2 1] 1.3"},
		{0, []uint64{9}, "batch[9] 1.1 2.1 1.2; batch[9 2 1] 1.3"},
		{0, []uint64{0, 3}, "batch[0 3] 0.1 0.2 2.1; batch[2 3 1] 0.3 0.4"},
		{0, []uint64{0, 0, 0, 6}, "batch[0 0 0 6] 0.1 1.1 0.2; batch[2 1 0 6] 2.1 0.3 0.4; batch[4 1 1 6] 1.2 1.3"},
		{0, []uint64{4, 2, 1}, "batch[4 2 1] 1.3"},
		{0, []uint64{4, 2, 1, 0, 0}, "batch[4 2 1] 1.3"},
		{0, []uint64{4, 3}, "batch[4 3] 2.1"},
		{0, []uint64{4, 3, 1}, ""},
		{0, []uint64{4, 3, 1, 0}, ""},
		{0, []uint64{5, 3, 2, 9}, ""},
		{0, []uint64{api.End, api.End, api.End}, ""},
		{0, []uint64{1<<64 - 1, 1, 1<<64 - 1}, "batch[18446744073709551615 1 18446744073709551615] 1.2 1.3"},
		{3, nil, "offer[2 1 1]@3; chunk 0+20; chunk 20+20; chunk 40+15; batch[2 1 1] 0.3 0.4 1.2; batch[4 2 1] 1.3"},
		{3, []uint64{1, 1, 1}, "offer[2 1 1]@3; chunk 0+20; chunk 20+20; chunk 40+15; batch[2 1 1] 0.3 0.4 1.2; batch[4 2 1] 1.3"},
		{3, []uint64{2, 1, 0}, "offer[2 1 1]@3; chunk 0+20; chunk 20+20; chunk 40+15; batch[2 1 1] 0.3 0.4 1.2; batch[4 2 1] 1.3"},
		{3, []uint64{4, 3, 0}, "offer[2 1 1]@3; chunk 0+20; chunk 20+20; chunk 40+15"},
		{3, []uint64{4, 0, 1}, "offer[2 1 1]@3; chunk 0+20; chunk 20+20; chunk 40+15; batch[4 1 1] 1.2 1.3"},
		{3, []uint64{1, 2, 1, 7}, "offer[2 1 1]@3; chunk 0+20; chunk 20+20; chunk 40+15; batch[2 2 1 7] 0.3 0.4 1.3"},
		{3, []uint64{2, 1, 1}, "batch[2 1 1] 0.3 0.4 1.2; batch[4 2 1] 1.3"},
		{3, []uint64{2, 1, 1, 0}, "batch[2 1 1] 0.3 0.4 1.2; batch[4 2 1] 1.3"},
		{3, []uint64{2, 3, 1}, "batch[2 3 1] 0.3 0.4"},
		{3, []uint64{3, 2, 5}, "batch[3 2 5] 0.4 1.3"},
		{3, []uint64{4, 3, 1}, ""},
		{4, nil, "offer[2 1 1]@4; chunk 0+20; chunk 20+20; chunk 40+15; batch[2 1 1] 0.3 0.4 1.2; batch[4 2 1] 1.3"},
		{7, []uint64{3, 3, 1}, "offer[4 3 1]@7; chunk 0+20; chunk 20+20; chunk 40+15"},
		{7, []uint64{4, 3}, "offer[4 3 1]@7; chunk 0+20; chunk 20+20; chunk 40+15"},
		{7, []uint64{4, 3, 1}, ""},
	} {
		p := simple(t, events, c.time)
		want := p.lacks(c.have, 3, 20)
		if len(p.encoded()) != 55 && c.time > 0 || shape(want) != c.want {
			t.Fatalf("time %d, %v: the model lacks %s of %d bytes, want %s", c.time, c.have, shape(want), len(p.encoded()), c.want)
		}
		wantLacked(t, p, c.have, want)
	}
}

// TestOffer: an Offer and its Chunks, written out in bytes.
func TestOffer(t *testing.T) {
	p := held{nodes: 2, l: listed("1.1@3 0.1@4"), time: 3}.open(t, settings{from: 10, batch: 3, chunk: 18})
	chunks := []string{
		"\x02\x00\x01\x03\x01\x00\x00\x00\x00\x00\x00\x00\x03\x00\x00\x00\x00\x00",
		"\x00\x00\x00\xd8\x28\xe1\x09\xa9\x9f\xb7\x5e\x01\x02k1\x01\x031",
		".1",
	}
	all := chunks[0] + chunks[1] + chunks[2]
	if string(p.encoded()) != all {
		t.Fatalf("the encoding is %q", p.encoded())
	}
	wantLacked(t, p, nil, []letter.Letter{
		{Kind: letter.Offer, Have: []uint64{0, 1}, Time: 3, Size: 38, Sum: sum([]byte(all))},
		{Kind: letter.Chunk, Size: 38, Bytes: []byte(chunks[0])},
		{Kind: letter.Chunk, Size: 38, At: 18, Bytes: []byte(chunks[1])},
		{Kind: letter.Chunk, Size: 38, At: 36, Bytes: []byte(chunks[2])},
		{Kind: letter.Batch, Have: []uint64{0, 1}, Events: listed("0.1@4")},
	})
}

// TestChunks: a fold that is shorter than a chunk, exactly as long, one byte longer, and many chunks long.
func TestChunks(t *testing.T) {
	h := held{nodes: 3, l: listed("0.1@1 2.1@2 2.2@3 1.1@4"), time: 3}
	size := len(h.encoded())
	for chunk := 1; chunk <= size+2; chunk++ {
		p := h.open(t, settings{batch: 1, chunk: chunk})
		want := h.lacks(nil, 1, chunk)
		chunks := (size + chunk - 1) / chunk
		if len(want) != chunks+2 || want[0].Kind != letter.Offer || want[chunks].Kind != letter.Chunk || want[chunks+1].Kind != letter.Batch {
			t.Fatalf("chunks of %d: the model lacks %s", chunk, shape(want))
		}
		if last := want[chunks]; len(last.Bytes) != size-chunk*(chunks-1) {
			t.Fatalf("chunks of %d: the last one has %d bytes", chunk, len(last.Bytes))
		}
		wantLacked(t, p, nil, want)
	}
}

// TestBatches: no events are lacking, one, as many as a batch has, and one more.
func TestBatches(t *testing.T) {
	for _, batch := range []int{1, 2, 3, 7, 100} {
		for n := range 3*batch + 2 {
			h := held{nodes: 2}
			for i := range n {
				h.l = append(h.l, listed(fmt.Sprintf("%d.%d@%d", i%2, i/2+1, i+1))...)
			}
			p := h.open(t, settings{node: 1, batch: batch, chunk: 1})
			want := h.lacks(nil, batch, 1)
			for i, x := range want {
				if full := i < len(want)-1; full && len(x.Events) != batch || len(x.Events) > batch {
					t.Fatalf("%d events, batches of %d: the model lacks %s", n, batch, shape(want))
				}
			}
			if len(want) != (n+batch-1)/batch {
				t.Fatalf("%d events, batches of %d: %d batches", n, batch, len(want))
			}
			wantLacked(t, p, nil, want)
		}
	}
}

// sized returns the event seq of writer 0, at that time, whose encoding has so many bytes.
func sized(t *testing.T, seq uint64, size int) api.Event {
	t.Helper()
	e := api.Event{Seq: seq, Time: seq, Kind: api.Set, Key: "k0"}
	for n := size - len(laid(e)); n >= 0; n-- {
		e.Text = make([]byte, n)
		if len(laid(e)) == size {
			return e
		}
	}
	t.Fatalf("no event has %d bytes", size)
	return e
}

// TestMostBytes: a batch has at most 2097152 bytes of encodings.
func TestMostBytes(t *testing.T) {
	const half = mostBytes / 2
	for _, c := range []struct {
		batch int
		sizes []int
		want  []int // events of each batch
	}{
		{9, []int{half, half}, []int{2}},
		{9, []int{half, half - 1}, []int{2}},
		{9, []int{half, half + 1}, []int{1, 1}},
		{9, []int{half + 1, half}, []int{1, 1}},
		{9, []int{half, half, 12}, []int{2, 1}},
		{9, []int{half, half - 12, 12}, []int{3}},
		{9, []int{half, half - 12, 13}, []int{2, 1}},
		{9, []int{half, half - 12, 13, half, half - 13, 12}, []int{2, 3, 1}},
		{9, []int{12, half, half}, []int{2, 1}},
		{9, []int{half, 12, half - 12}, []int{3}},
		{9, []int{half, 13, half - 12}, []int{2, 1}},
		{9, []int{half + 1, half, half, half + 1}, []int{1, 2, 1}},
		{9, []int{12, half + 10, half + 10, half + 10, 12}, []int{2, 1, 2}},
		{1, []int{half, half, 12, 12}, []int{1, 1, 1, 1}},
		{2, []int{half, half, 12, 12, 12}, []int{2, 2, 1}},
		{2, []int{half, half + 1, 12, 12, 12}, []int{1, 2, 2}},
		{3, []int{half / 2, half / 2, half / 2, half / 2}, []int{3, 1}},
		{4, []int{half / 2, half / 2, half / 2, half / 2}, []int{4}},
		{5, []int{half / 2, half / 2, half / 2, half / 2, 12, 12, 12}, []int{4, 3}},
	} {
		h := held{nodes: 2}
		for i, size := range c.sizes {
			h.l = append(h.l, sized(t, uint64(i+1), size))
		}
		want := h.lacks(nil, c.batch, 1)
		var counts []int
		for _, x := range want {
			counts = append(counts, len(x.Events))
		}
		if !slices.Equal(counts, c.want) {
			t.Fatalf("sizes %v, batches of %d: the model's have %v events, want %v", c.sizes, c.batch, counts, c.want)
		}
		wantLacked(t, h.open(t, settings{batch: c.batch, chunk: 1}), nil, want)
	}
}

// TestLargestEvents: no event that a store takes is larger than what a batch may have; each of the largest ones is its own.
func TestLargestEvents(t *testing.T) {
	h := large(4)
	h.time = 0
	want := h.lacks(nil, 9, 1)
	if len(want) != 4 {
		t.Fatalf("the model lacks %s", shape(want))
	}
	wantLacked(t, h.open(t, settings{batch: 9, chunk: 1}), nil, want)
}

// TestManySmallEvents: a batch of very many events is limited by their bytes, and each of them counts.
func TestManySmallEvents(t *testing.T) {
	h := held{nodes: 1}
	for i := range uint64(1200) {
		h.l = append(h.l, sized(t, i+1, 3000))
	}
	want := h.lacks(nil, 1<<20, 1)
	if len(want) != 2 || len(want[0].Events) != mostBytes/3000 {
		t.Fatalf("the model lacks %d batches", len(want))
	}
	wantLacked(t, h.open(t, settings{batch: 1 << 20, chunk: 1}), nil, want)
}

// TestRandomLacks: random events, folds, vectors and sizes against the model.
func TestRandomLacks(t *testing.T) {
	r := rand.New(rand.NewSource(171))
	for range 150 {
		h := randomHeld(r, 4, r.Intn(30))
		batch, chunk := 1+r.Intn(6), 1+r.Intn(50)
		p := h.open(t, settings{node: r.Intn(4), from: 3, batch: batch, chunk: chunk})
		for range 8 {
			have := make(vector.Vector, r.Intn(6))
			for w := range have {
				have[w] = uint64(r.Intn(10))
			}
			if r.Intn(3) == 0 {
				have = joined(have, h.floor())
			}
			wantLacked(t, p, have, h.lacks(have, batch, chunk))
		}
	}
}

// randomHeld returns n random events of so many writers, of which some may be folded.
func randomHeld(r *rand.Rand, writers, n int) held {
	h := held{nodes: writers}
	seqs, time, last := make([]uint64, writers), uint64(1), -1
	for range n {
		w := r.Intn(writers)
		if w <= last || r.Intn(2) == 0 {
			time += uint64(1 + r.Intn(3))
		}
		last = w
		seqs[w]++
		h.l = append(h.l, listed(fmt.Sprintf("%d.%d@%d", w, seqs[w], time))...)
	}
	if n > 0 && r.Intn(2) == 0 {
		h.time = 1 + uint64(r.Intn(int(h.clock())))
	}
	return h
}

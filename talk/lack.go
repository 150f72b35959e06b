package talk

import (
	"slices"

	"anabranch/api"
	"anabranch/check"
	"anabranch/event"
	"anabranch/letter"
	"anabranch/order"
	"anabranch/store"
	"anabranch/vector"
)

const (
	mostBytes = 2 << 20 // of the encodings of the events of a batch
	mostChunk = 1 << 20 // bytes of a fold in a letter
)

// lack returns the letters that hold what a replica lacks that has the events
// of have.
func (t *Talks) lack(s *store.Store, have vector.Vector) []letter.Letter {
	var l []letter.Letter
	floor := s.Floor()
	if !floor.Within(have) {
		l = t.offer(s)
	}
	have = vector.Join(have, floor)
	return append(l, t.batches(missing(s, have), have)...)
}

// offer returns the letters that hold the fold of a store.
func (t *Talks) offer(s *store.Store) []letter.Letter {
	p := s.Base().Encode()
	size := uint64(len(p))
	l := []letter.Letter{{Kind: letter.Offer, Have: s.Floor(), Time: s.Time(), Size: size, Sum: check.Sum(p)}}
	at := uint64(0)
	for piece := range slices.Chunk(p, min(max(t.chunk, 1), mostChunk)) {
		l = append(l, letter.Letter{Kind: letter.Chunk, Size: size, At: at, Bytes: piece})
		at += uint64(len(piece))
	}
	return l
}

// missing returns the events of a store, in order, that are not among those of
// have, which has all that are folded.
func missing(s *store.Store, have vector.Vector) []api.Event {
	floor, lists := s.Floor(), s.Lists()
	for w, l := range lists {
		known := have.Get(w) - floor.Get(w)
		lists[w] = l[min(known, uint64(len(l))):]
	}
	return order.All(lists)
}

// batches returns the letters that hold these events, for a replica that has
// the events of have before.
func (t *Talks) batches(events []api.Event, have vector.Vector) []letter.Letter {
	var l []letter.Letter
	for len(events) > 0 {
		n := t.fit(events)
		l = append(l, letter.Letter{Kind: letter.Batch, Have: have, Events: slices.Clip(events[:n])})
		for _, e := range events[:n] {
			have = have.With(e.Writer, e.Seq)
		}
		events = events[n:]
	}
	return l
}

// fit returns how many of the first events go into one batch: at least one,
// however large it is.
func (t *Talks) fit(events []api.Event) int {
	most := min(max(t.batch, 1), len(events))
	bytes := 0
	for i, e := range events[:most] {
		bytes += len(event.Encode(e))
		if bytes > mostBytes {
			return max(i, 1)
		}
	}
	return most
}

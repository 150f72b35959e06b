package talk

import (
	"slices"
	"testing"

	"anabranch/api"
	"anabranch/vector"
)

// TestEventsBeyondABatch is P17.2: an event of more bytes than a batch may have is a batch of its own. No store takes such an
// event, so that only the function itself can be asked; all other tests are in package talk_test.
func TestEventsBeyondABatch(t *testing.T) {
	small, large := api.Event{Kind: api.Retire}, api.Event{Kind: api.Set, Key: "k", Text: make([]byte, mostBytes)}
	for _, c := range []struct {
		events []api.Event
		want   []int
	}{
		{[]api.Event{large}, []int{1}},
		{[]api.Event{large, large}, []int{1, 1}},
		{[]api.Event{large, small, small}, []int{1, 2}},
		{[]api.Event{small, small, large}, []int{2, 1}},
		{[]api.Event{small, large, small, large, small}, []int{1, 1, 1, 1, 1}},
	} {
		for i := range c.events {
			c.events[i].Seq = uint64(i + 1)
		}
		var got []int
		for _, x := range New(0, 9, 1).batches(c.events, nil) {
			if before := vector.Vector(nil).With(0, x.Events[0].Seq-1); !vector.Same(x.Have, before) {
				t.Errorf("the events from %d on are for one who has %v", x.Events[0].Seq, x.Have)
			}
			got = append(got, len(x.Events))
		}
		if !slices.Equal(got, c.want) {
			t.Errorf("the batches have %v events, want %v", got, c.want)
		}
	}
}

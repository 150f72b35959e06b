package replica

import (
	"testing"

	"anabranch/api"
	"anabranch/disk"
	"anabranch/letter"
	"anabranch/talk"
)

// TestNoFurtherSerial is P18.2 for Begin: ErrExhausted, if there is no further serial number. No opening comes so far, so that
// only a replica with other talks can be asked; all other tests are in package replica_test.
func TestNoFurtherSerial(t *testing.T) {
	r, e := Open(disk.New(1<<20), 0, api.Config{Nodes: 2, Segment: 60, Batch: 1, Chunk: 1}, openings-1)
	if e != api.OK {
		t.Fatal(e)
	}
	r.talks = talk.New(api.End-1, 1, 1)
	p, e := r.Begin(1)
	if x, wrong := letter.Decode(p); e != api.OK || wrong != api.OK || x.Serial != api.End {
		t.Errorf("the last exchange: %v, %d, %d", x, e, wrong)
	}
	if _, e := r.store.Write(api.Event{Kind: api.Drop, Key: "k"}); e != api.OK {
		t.Fatal(e)
	}
	for _, to := range []int{1, 2, 63} {
		if p, e := r.Begin(to); len(p) > 0 || e != api.ErrExhausted {
			t.Errorf("Begin(%d) = %x, %d", to, p, e)
		}
	}
	for _, to := range []int{-1, 0, 64} {
		if p, e := r.Begin(to); len(p) > 0 || e != api.ErrArg {
			t.Errorf("Begin(%d) = %x, %d", to, p, e)
		}
	}
	if rows := r.Matrix().Rows(); len(rows) > 0 {
		t.Errorf("with an error it has noted %v", rows)
	}
}

package letter_test

import (
	"bytes"
	"slices"
	"strings"
	"testing"

	"anabranch/api"
	"anabranch/letter"
	"anabranch/vector"
)

// The tests of the greatest letters (P16.2).

// chunk returns a Chunk whose contents have that many bytes, at least 2^21 + 100.
func chunk(size int) letter.Letter {
	x := letter.Letter{Kind: letter.Chunk, From: 1, To: 2, Mine: true, Serial: 3, Size: mostSize, At: 5}
	length := 4 // bytes of the length of Bytes, where it is from 2^21 to 2^28 - 1
	x.Bytes = bytes.Repeat([]byte("b"), size-(len(contents(x))-1)-length)
	return x
}

// batch returns a Batch whose contents have that many bytes, at least 3 * MaxText + 20000.
func batch(size int) letter.Letter {
	x := letter.Letter{Kind: letter.Batch, From: 1, To: 2, Serial: 3, Have: vector.Vector{4}}
	for i := range uint64(3) {
		x.Events = append(x.Events, api.Event{Writer: 0, Seq: 5 + i, Time: 6 + i, Kind: api.Set, Key: "k", Text: bytes.Repeat([]byte{byte(i)}, api.MaxText)})
	}
	last := api.Event{Writer: 0, Seq: 8, Time: 9, Kind: api.Set, Key: "k", Text: bytes.Repeat([]byte("t"), 20000)}
	for { // as the length of the text may be laid in more bytes, too
		y := x
		y.Events = append(slices.Clip(x.Events), last)
		n := len(contents(y))
		if n == size {
			return y
		}
		last.Text = bytes.Repeat([]byte("t"), len(last.Text)+size-n)
	}
}

func TestDecodeOfMost(t *testing.T) {
	for _, make := range []func(size int) letter.Letter{chunk, batch} {
		for size := letter.Most - 2; size <= letter.Most+2; size++ {
			x := make(size)
			p := string(letter.Encode(x))
			if p != encoded(x) || len(contents(x)) != size {
				t.Fatalf("Encode(%s): %d bytes", brief(x), len(p))
			}
			if size <= letter.Most {
				wantDecoded(t, p, x)
				wantRefused(t, p+"\x00", api.ErrForm)
				wantRefused(t, p[:len(p)-1], api.ErrShort)
				wantRefused(t, p[:len(p)-5], api.ErrShort)
				wantRefused(t, p[:len(p)-1]+string([]byte{p[len(p)-1] ^ 1}), api.ErrForm)
			} else {
				wantRefused(t, p, api.ErrLong)
				wantRefused(t, p+"\x00", api.ErrLong)
				wantRefused(t, p[:len(p)-1], api.ErrLong)
				wantRefused(t, p[:4], api.ErrLong)
			}
		}
	}
}

// TestDecodeOfMoreThanMost: whatever the record holds, it is too long; and it may not be there at all.
func TestDecodeOfMoreThanMost(t *testing.T) {
	long := strings.Repeat("\x00", letter.Most+1)
	wantRefused(t, sealed(long), api.ErrLong)
	wantRefused(t, sealed(long[1:]), api.ErrForm)
	wantRefused(t, "\x80\x80\x80\x02", api.ErrShort)
	wantRefused(t, "\x81\x80\x80\x02", api.ErrLong)
	wantRefused(t, after, api.ErrLong)
	wantRefused(t, "\xff\xff\xff\xff\xff\xff\xff\xff\xff\x01", api.ErrLong)
	wantRefused(t, tall, api.ErrForm)
	wantRefused(t, "\x81\x80\x80\x82\x00", api.ErrForm)
}

// TestLongestFields: fields at the limits of their own, alone and together.
func TestLongestFields(t *testing.T) {
	for _, k := range kinds {
		wantDecoded(t, encoded(most(k)), plain(most(k)))
		x := most(k)
		x.Bytes = bytes.Repeat([]byte("\x80"), 1<<20)
		x.Events = []api.Event{
			{Writer: 63, Seq: api.End, Time: api.End, Kind: api.Set, Key: longKey, Text: bytes.Repeat([]byte("\xff"), api.MaxText)},
			{Writer: 63, Seq: api.End, Time: api.End, Kind: api.Join, Node: 63},
		}
		wantDecoded(t, encoded(x), plain(x))
		wantDecoded(t, string(letter.Encode(x)), plain(x))
	}
}

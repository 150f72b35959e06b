package letter_test

import (
	"math"
	"math/rand"
	"slices"
	"testing"

	"anabranch/api"
	"anabranch/letter"
	"anabranch/vector"
)

// The tests of P16.1.

func TestConstants(t *testing.T) {
	l := []byte{letter.Hello, letter.Summary, letter.Batch, letter.Ack, letter.Offer, letter.Chunk, letter.Abort}
	if !slices.Equal(l, kinds) || letter.Most != 4194304 {
		t.Errorf("the kinds are %v, Most is %d", l, letter.Most)
	}
}

// report is what a Hello, a Summary and an Ack have in TestEncode, and laidReport how it is laid.
var report = letter.Letter{From: 1, To: 2, Mine: true, Serial: 300, Have: vector.Vector{4, 0, 128}, Rows: []api.Row{{Node: 5, Have: []uint64{6}, Time: 7}, {Node: 8, Time: 9}}}

const laidReport = "\x01\x02\x01\xac\x02\x03\x04\x00\x80\x01\x02\x05\x01\x06\x07\x08\x00\x09"

func TestEncode(t *testing.T) {
	as := func(kind byte) letter.Letter {
		x := report
		x.Kind = kind
		return x
	}
	for _, c := range []struct {
		x    letter.Letter
		want string
	}{
		{letter.Letter{Kind: letter.Hello}, "\x01\x01\x00\x00\x00\x00\x00\x00"},
		{letter.Letter{Kind: letter.Summary}, "\x01\x02\x00\x00\x00\x00\x00\x00"},
		{letter.Letter{Kind: letter.Batch}, "\x01\x03\x00\x00\x00\x00\x00\x00"},
		{letter.Letter{Kind: letter.Ack}, "\x01\x04\x00\x00\x00\x00\x00\x00"},
		{letter.Letter{Kind: letter.Offer}, "\x01\x05\x00\x00\x00\x00\x00\x00\x00\x00"},
		{letter.Letter{Kind: letter.Chunk}, "\x01\x06\x00\x00\x00\x00\x00\x00\x00"},
		{letter.Letter{Kind: letter.Abort}, "\x01\x07\x00\x00\x00\x00\x00"},
		{as(letter.Hello), "\x01\x01" + laidReport},
		{as(letter.Summary), "\x01\x02" + laidReport},
		{as(letter.Ack), "\x01\x04" + laidReport},
		{letter.Letter{Kind: letter.Batch, From: 63, To: 62, Serial: 1, Have: vector.Vector{2}, Events: []api.Event{
			{Writer: 1, Seq: 2, Time: 3, Kind: api.Drop, Key: "k"}, {Writer: 4, Seq: 5, Time: 300, Kind: api.Set, Key: "q", Text: []byte("hi")}}},
			"\x01\x03\x3f\x3e\x00\x01\x01\x02\x02\x06\x01\x02\x03\x04\x01k\x0a\x04\x05\xac\x02\x01\x01q\x02hi"},
		{letter.Letter{Kind: letter.Offer, From: 1, Mine: true, Have: vector.Vector{0, 9}, Time: 7, Size: 300, Sum: 8}, "\x01\x05\x01\x00\x01\x00\x02\x00\x09\x07\xac\x02\x08"},
		{letter.Letter{Kind: letter.Offer, Time: api.End, Size: 1 << 40, Sum: math.MaxUint32},
			"\x01\x05\x00\x00\x00\x00\x00\xff\xff\xff\xff\xff\xff\xff\xff\x7f\x80\x80\x80\x80\x80\x20\xff\xff\xff\xff\x0f"},
		{letter.Letter{Kind: letter.Chunk, To: 3, Serial: 2, Size: 100, At: 50, Bytes: []byte("bytes")}, "\x01\x06\x00\x03\x00\x02\x64\x32\x05bytes"},
		{letter.Letter{Kind: letter.Abort, Mine: true, Serial: api.End, Why: api.ErrFull}, "\x01\x07\x00\x00\x01\xff\xff\xff\xff\xff\xff\xff\xff\x7f\x03"},
		{letter.Letter{Kind: letter.Abort, Why: 65536}, "\x01\x07\x00\x00\x00\x00\x80\x80\x04"},
	} {
		if got := string(letter.Encode(c.x)); got != sealed(c.want) {
			t.Errorf("Encode(%s) = %q, want the record of %q", brief(c.x), got, c.want)
		}
		wantDecoded(t, sealed(c.want), c.x)
	}
}

// TestEncodeWithItsCheck: one record is written out as a whole.
func TestEncodeWithItsCheck(t *testing.T) {
	x := letter.Letter{Kind: letter.Abort, From: 1, To: 2, Mine: true, Serial: 3, Why: api.ErrFull}
	want := "\x07\x01\x07\x01\x02\x01\x03\x03\x9d\xbb\xe2\xd5"
	if got := string(letter.Encode(x)); got != want {
		t.Errorf("Encode(%s) = %q, want %q", brief(x), got, want)
	}
	wantDecoded(t, want, x)
}

// wantEncoded checks that Encode returns what the encoding of x is.
func wantEncoded(t *testing.T, x letter.Letter) {
	t.Helper()
	if got, want := string(letter.Encode(x)), encoded(x); got != want {
		t.Fatalf("Encode(%s) = %.100q (%d bytes), want %.100q (%d bytes)", brief(x), got, len(got), want, len(want))
	}
}

func TestEncodeOfManyLetters(t *testing.T) {
	for _, x := range samples() {
		wantEncoded(t, x)
	}
	r := rand.New(rand.NewSource(161))
	for range 20000 {
		wantEncoded(t, randomLetter(r))
	}
}

// TestEncodeLaysTheFieldsOfTheKind: each of these is in the encoding, and no other field is.
func TestEncodeLaysTheFieldsOfTheKind(t *testing.T) {
	changes := map[string]func(x *letter.Letter){
		"Have":   func(x *letter.Letter) { x.Have = vector.Vector{99} },
		"Rows":   func(x *letter.Letter) { x.Rows = x.Rows[:1] },
		"Events": func(x *letter.Letter) { x.Events = x.Events[:1] },
		"Time":   func(x *letter.Letter) { x.Time++ },
		"Size":   func(x *letter.Letter) { x.Size++ },
		"Sum":    func(x *letter.Letter) { x.Sum++ },
		"At":     func(x *letter.Letter) { x.At++ },
		"Bytes":  func(x *letter.Letter) { x.Bytes = nil },
		"Why":    func(x *letter.Letter) { x.Why++ },
	}
	uses := [][]string{nil, {"Have", "Rows"}, {"Have", "Rows"}, {"Have", "Events"}, {"Have", "Rows"}, {"Have", "Time", "Size", "Sum"}, {"Size", "At", "Bytes"}, {"Why"}}
	for _, k := range kinds {
		before := string(letter.Encode(full(k)))
		for name, change := range changes {
			x := full(k)
			change(&x)
			if after := string(letter.Encode(x)); (after != before) != slices.Contains(uses[k], name) {
				t.Errorf("kind %d: another %s, Encode = %q", k, name, after)
			}
		}
		for _, change := range []func(x *letter.Letter){
			func(x *letter.Letter) { x.From++ },
			func(x *letter.Letter) { x.To++ },
			func(x *letter.Letter) { x.Mine = false },
			func(x *letter.Letter) { x.Serial++ },
		} {
			x := full(k)
			change(&x)
			if string(letter.Encode(x)) == before {
				t.Errorf("kind %d: Encode(%s) = %q", k, brief(x), before)
			}
		}
	}
}

// TestEncodeOfManyEvents: they are not copied again for each one.
func TestEncodeOfManyEvents(t *testing.T) {
	x := letter.Letter{Kind: letter.Batch, Events: slices.Repeat([]api.Event{{Writer: 1, Seq: 2, Time: 3, Kind: api.Drop, Key: "k"}}, 300000)}
	wantEncoded(t, x)
	wantDecoded(t, encoded(x), x)
}

// strange returns letters that no Decode returns: fields beyond their limits, and kinds that there are not.
func strange() []letter.Letter {
	var l []letter.Letter
	for k := range 256 {
		for _, n := range []int{math.MinInt, -1, 64, math.MaxInt} {
			v := vector.Vector{math.MaxUint64, above}
			l = append(l, letter.Letter{
				Kind: byte(k), From: n, To: n, Serial: math.MaxUint64, Have: v, Rows: []api.Row{{Node: n, Have: v, Time: above}},
				Events: []api.Event{{Writer: n, Seq: above, Time: above, Kind: byte(k), Key: longKey + "k", Node: n}},
				Time:   above, Size: mostSize + 1, At: math.MaxUint64, Why: api.Errno(n),
			})
		}
		l = append(l, letter.Letter{Kind: byte(k), Have: slices.Repeat(vector.Vector{1}, 1000), Rows: make([]api.Row, 1000), Events: make([]api.Event, 1000)})
	}
	return l
}

// TestEncodeOfStrangeLetters is P1: Encode lays them as they are, and Decode refuses them.
func TestEncodeOfStrangeLetters(t *testing.T) {
	for _, x := range strange() {
		wantEncoded(t, x)
		if y, e := letter.Decode(letter.Encode(x)); e == api.OK && !identical(y, plain(x)) || e != api.OK && !identical(y, letter.Letter{}) {
			t.Errorf("Decode of Encode(%s) = %s, %d", brief(x), brief(y), e)
		}
	}
}

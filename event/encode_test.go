package event_test

import (
	"fmt"
	"math"
	"math/rand"
	"slices"
	"testing"

	"anabranch/api"
	"anabranch/event"
)

// wantNone checks that Decode refuses p with this error, and returns nothing else.
func wantNone(t *testing.T, what string, p []byte, want api.Errno) {
	t.Helper()
	if e, err := event.Decode(p); err != want || !identical(e, api.Event{}) {
		t.Errorf("%s: Decode(%.60q) = %s, %d, want the error %d", what, p, brief(e), err, want)
	}
}

// The tests of P6.2.

func TestEncode(t *testing.T) {
	for _, c := range []struct {
		e    api.Event
		want string
	}{
		{api.Event{Writer: 1, Seq: 2, Time: 3, Kind: api.Drop, Key: "k"}, "\x01\x02\x03\x04\x01k"},
		{full(api.Set), "\x01\x02\xac\x02\x01\x03key\x02hi"},
		{full(api.Put), "\x01\x02\xac\x02\x02\x03key\x3f\xe0\x00\x00\x00\x00\x00\x00"},
		{full(api.Add), "\x01\x02\xac\x02\x03\x03key\x3f\xe0\x00\x00\x00\x00\x00\x00"},
		{full(api.Drop), "\x01\x02\xac\x02\x04\x03key"},
		{full(api.Join), "\x01\x02\xac\x02\x05\x05"},
		{full(api.Retire), "\x01\x02\xac\x02\x06"},
		{api.Event{Seq: 1, Time: 1, Kind: api.Set, Key: "k"}, "\x00\x01\x01\x01\x01k\x00"},
		{api.Event{Seq: 1, Time: 1, Kind: api.Put, Key: "k", Num: math.NaN()}, "\x00\x01\x01\x02\x01k\x7f\xf8\x00\x00\x00\x00\x00\x01"},
		{api.Event{Seq: 1, Time: 1, Kind: api.Add, Key: "k", Num: nans[3]}, "\x00\x01\x01\x03\x01k\x7f\xf8\x00\x00\x00\x00\x00\x01"},
		{api.Event{Seq: 1, Time: 1, Kind: api.Add, Key: "k", Num: negativeZero}, "\x00\x01\x01\x03\x01k\x80\x00\x00\x00\x00\x00\x00\x00"},
		{api.Event{Writer: 63, Seq: 128, Time: api.End, Kind: api.Join, Node: 63}, "\x3f\x80\x01\xff\xff\xff\xff\xff\xff\xff\xff\x7f\x05\x3f"},
	} {
		if got := string(event.Encode(c.e)); got != c.want {
			t.Errorf("Encode(%s) = %q, want %q", brief(c.e), got, c.want)
		}
	}
}

func TestDecodeIsTheInverseOfEncode(t *testing.T) {
	for _, e := range append(rights(), atTheLimit()...) {
		p := event.Encode(e)
		if string(p) != laid(e) {
			t.Errorf("Encode(%s) = %.60q", brief(e), p)
		}
		if got, err := event.Decode(p); err != api.OK || !identical(got, plainOf(e)) {
			t.Errorf("Decode of Encode(%s) = %s, %d", brief(e), brief(got), err)
		}
	}
}

// TestDecodeOfRandomEvents: all fields differ at once, in numbers of all lengths.
func TestDecodeOfRandomEvents(t *testing.T) {
	r := rand.New(rand.NewSource(6))
	number := func() uint64 { return r.Uint64()>>(1+r.Intn(62)) | 1 }
	letters := func(n int) []byte {
		p := make([]byte, n)
		r.Read(p)
		return p
	}
	for range 20000 {
		e := api.Event{
			Writer: r.Intn(64), Seq: number(), Time: number(), Kind: kinds[r.Intn(len(kinds))], Node: r.Intn(64),
			Key: string(letters(1 + r.Intn(64))), Text: letters(r.Intn(300)), Num: math.Float64frombits(r.Uint64()),
		}
		p := event.Encode(e)
		got, err := event.Decode(p)
		if string(p) != laid(e) || err != api.OK || !identical(got, plainOf(e)) {
			t.Fatalf("%s: %q, %s, %d", brief(e), p, brief(got), err)
		}
	}
}

// TestDecodeOfWhatIsCutOff: no encoding is the beginning of another one.
func TestDecodeOfWhatIsCutOff(t *testing.T) {
	for _, e := range rights() {
		p := event.Encode(e)
		for i := range p {
			wantNone(t, "cut off", p[:i], api.ErrShort)
		}
	}
	for _, e := range atTheLimit() {
		p := event.Encode(e)
		for _, i := range []int{0, 1, 10, len(p) / 2, len(p) - 1} {
			wantNone(t, "cut off", p[:i], api.ErrShort)
		}
	}
	wantNone(t, "nothing", nil, api.ErrShort)
}

func TestDecodeWithBytesBehind(t *testing.T) {
	for _, e := range append(rights(), atTheLimit()...) {
		p := event.Encode(e)
		for _, tail := range []string{"\x00", "\x80", "x", string(p)} {
			wantNone(t, "bytes behind", append(slices.Clone(p), tail...), api.ErrForm)
		}
	}
}

// wantExact checks that Decode accepts p only as the encoding of a right event, and answers every other p with an error of P6.2.
func wantExact(t *testing.T, p []byte) {
	t.Helper()
	e, err := event.Decode(p)
	switch err {
	case api.OK:
		if event.Right(e) != api.OK || !identical(e, plainOf(e)) || laid(e) != string(p) {
			t.Errorf("Decode(%.60q) = %s", p, brief(e))
		}
	case api.ErrArg, api.ErrForm, api.ErrShort, api.ErrLong, api.ErrExhausted:
		if !identical(e, api.Event{}) {
			t.Errorf("Decode(%.60q) = %s, %d", p, brief(e), err)
		}
	default:
		t.Errorf("Decode(%.60q): %d", p, err)
	}
}

// TestDecodeOfChangedBytes: any value of any byte, and any two bytes' bits turned.
func TestDecodeOfChangedBytes(t *testing.T) {
	for _, k := range kinds {
		whole := event.Encode(full(k))
		for i := range whole {
			p := slices.Clone(whole)
			for b := range 256 {
				p[i] = byte(b)
				wantExact(t, p)
			}
			for j := range i {
				for bit := range 64 {
					p := slices.Clone(whole)
					p[i] ^= 1 << (bit % 8)
					p[j] ^= 1 << (bit / 8)
					wantExact(t, p)
				}
			}
		}
	}
}

// TestDecodeOfRandomBytes: most of these begin as an event does.
func TestDecodeOfRandomBytes(t *testing.T) {
	r := rand.New(rand.NewSource(62))
	for range 100000 {
		p := make([]byte, r.Intn(24))
		r.Read(p)
		for i := range min(len(p), 5) {
			p[i] %= 8
		}
		wantExact(t, p)
	}
}

const (
	end   = "\xff\xff\xff\xff\xff\xff\xff\xff\x7f"     // End
	above = "\x80\x80\x80\x80\x80\x80\x80\x80\x80\x01" // End + 1
	most  = "\xff\xff\xff\xff\xff\xff\xff\xff\xff\x01" // the greatest number
	wide  = "\xff\xff\xff\xff\xff\xff\xff\xff\xff\x02" // more than 64 bits
	half  = "\x3f\xe0\x00\x00\x00\x00\x00\x00"         // the quantity 0.5
	nan   = "\x7f\xf8\x00\x00\x00\x00\x00\x01"         // the one NaN
)

// TestDecodeRefusesWhatEveryKindHas: the writer, the number, the time and the kind, before the fields of each kind.
func TestDecodeRefusesWhatEveryKindHas(t *testing.T) {
	for _, data := range []string{"\x01\x01k\x02hi", "\x02\x01k" + half, "\x03\x01k" + nan, "\x04\x01k", "\x05\x07", "\x06"} {
		for _, c := range []struct {
			first string
			want  api.Errno
		}{
			{"\x00\x01\x01", api.OK},
			{"\x3f" + end + end, api.OK},
			{"\x40\x01\x01", api.ErrLong},
			{most + "\x01\x01", api.ErrLong},
			{wide + "\x01\x01", api.ErrForm},
			{"\x81\x00\x01\x01", api.ErrForm},
			{"\x00\x81\x00\x01", api.ErrForm},
			{"\x00\x01\x81\x00", api.ErrForm},
			{"\x00" + wide + "\x01", api.ErrForm},
			{"\x00\x01" + wide, api.ErrForm},
			{"\x00\x00\x01", api.ErrArg},
			{"\x00\x01\x00", api.ErrArg},
			{"\x00" + above + "\x01", api.ErrExhausted},
			{"\x00\x01" + above, api.ErrExhausted},
			{"\x00" + most + most, api.ErrExhausted},
			{"\x00\x00" + above, api.ErrArg},
			{"\x00" + above + "\x00", api.ErrArg},
		} {
			p := []byte(c.first + data)
			if c.want != api.OK {
				wantNone(t, "first fields", p, c.want)
			} else if _, err := event.Decode(p); err != api.OK {
				t.Errorf("Decode(%q): %d", p, err)
			}
		}
	}
}

func TestDecodeRefusesKinds(t *testing.T) {
	for _, k := range noKinds {
		p := append([]byte("\x00\x01\x01"), k)
		wantNone(t, "no kind", p, api.ErrArg)
		wantNone(t, "no kind, and bytes behind", append(p, 1), api.ErrForm)
	}
}

// TestDecodeRefusesFields: the kind and what it uses, after a writer, a number and a time.
func TestDecodeRefusesFields(t *testing.T) {
	for _, c := range []struct {
		p    string
		want api.Errno
	}{
		{"\x01\x00\x02hi", api.ErrLong},
		{"\x02\x00" + half, api.ErrLong},
		{"\x03\x00" + half, api.ErrLong},
		{"\x04\x00", api.ErrLong},
		{"\x04\x41" + longKey, api.ErrLong},
		{"\x04\x41" + longKey + "x", api.ErrLong},
		{"\x04\x41", api.ErrLong},
		{"\x04" + most, api.ErrLong},
		{"\x04\x81\x00k", api.ErrForm},
		{"\x02\x41" + longKey + half, api.ErrLong},
		{"\x01\x41" + longKey + "\x02hi", api.ErrLong},
		{"\x01\x01k\x82\x00hi", api.ErrForm},
		{"\x01\x01k\x81\x80\x40" + string(longText), api.ErrLong},
		{"\x01\x01k\x81\x80\x40", api.ErrLong},
		{"\x01\x01k" + most, api.ErrLong},
		{"\x01\x00\x81\x80\x40", api.ErrLong},
		{"\x02\x01k" + half + "\x00", api.ErrForm},
		{"\x02\x01k\x7f\xf8\x00\x00\x00\x00\x00\x00", api.ErrForm},
		{"\x03\x01k\x7f\xf0\x00\x00\x00\x00\x00\x01", api.ErrForm},
		{"\x03\x01k\xff\xf8\x00\x00\x00\x00\x00\x01", api.ErrForm},
		{"\x02\x01k\xff\xff\xff\xff\xff\xff\xff\xff", api.ErrForm},
		{"\x02\x00\xff\xff\xff\xff\xff\xff\xff\xff", api.ErrForm},
		{"\x02\x00" + half[:7], api.ErrShort},
		{"\x05\x40", api.ErrLong},
		{"\x05" + most, api.ErrLong},
		{"\x05" + wide, api.ErrForm},
		{"\x05\x81\x00", api.ErrForm},
		{"\x05\x07\x00", api.ErrForm},
		{"\x06\x00", api.ErrForm},
	} {
		wantNone(t, "fields", []byte("\x00\x01\x01"+c.p), c.want)
	}
}

// TestDecodeReturnsTheFirstError: what is no encoding has no event that could be wrong; of an event's faults the first one counts.
func TestDecodeReturnsTheFirstError(t *testing.T) {
	for _, c := range []struct {
		p    string
		want api.Errno
	}{
		{"\x00\x00\x01\x04\x01", api.ErrShort},
		{"\x00\x00\x01\x04\x01kk", api.ErrForm},
		{"\x00\x00\x01\x04\x41", api.ErrLong},
		{"\x00\x00\x01\x05\x40", api.ErrLong},
		{"\x40\x00\x01\x04\x01kk", api.ErrLong},
		{"\x00" + above + "\x01\x06\x00", api.ErrForm},
		{"\x00\x00\x01\x04\x00", api.ErrArg},
		{"\x00\x01\x00\x04\x00", api.ErrArg},
		{"\x00" + above + "\x01\x04\x00", api.ErrLong},
		{"\x00\x01" + above + "\x04\x00", api.ErrLong},
		{"\x00\x00" + above + "\x04\x00", api.ErrArg},
		{"\x00\x01" + above + "\x07", api.ErrArg},
	} {
		wantNone(t, "two faults", []byte(c.p), c.want)
	}
}

// TestDecodeAtTheLimits: what is refused above them is accepted here.
func TestDecodeAtTheLimits(t *testing.T) {
	p := fmt.Sprintf("\x3f%s%s\x01\x40%s\x80\x80\x40%s", end, end, longKey[1:], longText[1:])
	e, err := event.Decode([]byte(p))
	want := api.Event{Writer: 63, Seq: api.End, Time: api.End, Kind: api.Set, Key: longKey[1:], Text: longText[1:]}
	if err != api.OK || !identical(e, want) {
		t.Errorf("Decode = %s, %d", brief(e), err)
	}
	e, err = event.Decode([]byte("\x00\x01\x01\x05\x3f"))
	if err != api.OK || !identical(e, api.Event{Seq: 1, Time: 1, Kind: api.Join, Node: 63}) {
		t.Errorf("Decode = %s, %d", brief(e), err)
	}
	e, err = event.Decode([]byte("\x00\x01\x01\x03\x01k" + nan))
	if err != api.OK || !identical(e, api.Event{Seq: 1, Time: 1, Kind: api.Add, Key: "k", Num: math.NaN()}) {
		t.Errorf("Decode = %s, %d", brief(e), err)
	}
}

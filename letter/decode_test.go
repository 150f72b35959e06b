package letter_test

import (
	"math"
	"slices"
	"strings"
	"testing"

	"anabranch/api"
	"anabranch/letter"
	"anabranch/vector"
)

const (
	tall  = "\xff\xff\xff\xff\xff\xff\xff\xff\xff\x02" // a number of more than 64 bits
	after = "\x80\x80\x80\x80\x80\x80\x80\x80\x80\x01" // the number End + 1
)

// The tests of P16.2.

// TestDecodeIsTheInverseOfEncode: it returns the fields of the kind, and no other ones.
func TestDecodeIsTheInverseOfEncode(t *testing.T) {
	for _, x := range samples() {
		wantDecoded(t, encoded(x), plain(x))
		wantDecoded(t, string(letter.Encode(x)), plain(x))
	}
}

// TestExample is the chapter's example.
func TestExample(t *testing.T) {
	for _, x := range small() {
		p := letter.Encode(x)
		for i := range p {
			for bit := range 8 {
				p[i] ^= 1 << bit
				if y, e := letter.Decode(p); e == api.OK || !identical(y, letter.Letter{}) {
					t.Fatalf("a bit of byte %d of %q is turned: %s, %d", i, p, brief(y), e)
				}
				p[i] ^= 1 << bit
			}
		}
		wantDecoded(t, string(p), plain(x))
	}
}

// TestDecodeOfWhatIsCutOff: no encoding is the beginning of another one, and no contents are.
func TestDecodeOfWhatIsCutOff(t *testing.T) {
	for _, x := range small() {
		p, c := encoded(x), contents(x)
		for i := range p {
			wantRefused(t, p[:i], api.ErrShort)
		}
		for i := range c {
			wantRefused(t, sealed(c[:i]), api.ErrShort)
		}
	}
	for _, k := range kinds {
		p, c := encoded(most(k)), contents(most(k))
		for i := 0; i < len(p); i += 1 + len(p)/200 {
			wantRefused(t, p[:i], api.ErrShort)
		}
		for i := 0; i < len(c); i += 1 + len(c)/200 {
			wantRefused(t, sealed(c[:i]), api.ErrShort)
		}
	}
	for _, p := range [][]byte{nil, {}} {
		if x, e := letter.Decode(p); e != api.ErrShort || !identical(x, letter.Letter{}) {
			t.Errorf("Decode of nothing: %s, %d", brief(x), e)
		}
	}
}

// TestDecodeWithBytesBehind: behind the record, or behind the letter within it.
func TestDecodeWithBytesBehind(t *testing.T) {
	for _, x := range append(small(), most(letter.Hello), most(letter.Offer)) {
		p, c := encoded(x), contents(x)
		for _, tail := range []string{"\x00", "\x01", "a", "\x80", "\x80\x00", after, tall, p} {
			wantRefused(t, p+tail, api.ErrForm)
			wantRefused(t, sealed(c+tail), api.ErrForm)
			wantRefused(t, sealed(c)+tail+"\x00", api.ErrForm)
		}
	}
}

// TestDecodeOfOtherFirstBytes: the first byte is 1, and the second one a kind.
func TestDecodeOfOtherFirstBytes(t *testing.T) {
	for _, x := range small() {
		c := contents(x)
		for b := range 256 {
			if b != 1 {
				wantRefused(t, sealed(string([]byte{byte(b)})+c[1:]), api.ErrForm)
				wantRefused(t, sealed(string([]byte{byte(b)})), api.ErrForm)
			}
			if b == 0 || b > 7 {
				wantRefused(t, sealed("\x01"+string([]byte{byte(b)})+c[2:]), api.ErrForm)
				wantRefused(t, sealed("\x01"+string([]byte{byte(b)})), api.ErrForm)
			} else {
				wantAsModel(t, sealed("\x01"+string([]byte{byte(b)})+c[2:]))
			}
		}
		wantRefused(t, sealed("\x81\x00"+c[1:]), api.ErrForm)
		wantRefused(t, sealed("\x01\x81\x00"+c[2:]), api.ErrForm)
	}
}

// TestDecodeOfOtherNumbers: each number in the contents at its limit and above it, or laid in a longer way.
func TestDecodeOfOtherNumbers(t *testing.T) {
	for _, x := range small() {
		parts := partsOf(x)
		for i, p := range parts {
			if !p.isNum {
				continue
			}
			with := func(s string) string {
				l := slices.Clone(parts)
				l[i] = part{s: s}
				return sealed(joined(l))
			}
			for _, n := range []uint64{p.most + 1, p.most + 2, p.most + 128, math.MaxUint64} {
				wantRefused(t, with(num(n, 0).String()), api.ErrLong)
			}
			for _, n := range []uint64{0, 1, p.most - 1, p.most} {
				wantAsModel(t, with(num(n, 0).String()))
			}
			s := []byte(p.String())
			s[len(s)-1] |= 0x80
			wantRefused(t, with(string(s)+"\x00"), api.ErrForm)
			wantRefused(t, with(string(s)+"\x80\x00"), api.ErrForm)
			wantRefused(t, with(tall), api.ErrForm)
			wantRefused(t, sealed(joined(parts[:i])+string(s)), api.ErrShort)
		}
	}
}

// TestDecodeBeyondTheLimits: Encode lays whatever it is given, but Decode refuses it.
func TestDecodeBeyondTheLimits(t *testing.T) {
	for _, k := range kinds {
		refused := func(want api.Errno, uses string, change func(x *letter.Letter)) {
			t.Helper()
			for _, x := range []letter.Letter{{Kind: k}, full(k), most(k)} {
				change(&x)
				if strings.Contains(uses, string('0'+rune(k))) {
					wantRefused(t, string(letter.Encode(x)), want)
				} else {
					wantDecoded(t, string(letter.Encode(x)), plain(x))
				}
			}
		}
		for _, n := range []int{math.MinInt, -1, api.MaxNodes, api.MaxNodes + 1, 127, 128, math.MaxInt} {
			refused(api.ErrLong, "1234567", func(x *letter.Letter) { x.From = n })
			refused(api.ErrLong, "1234567", func(x *letter.Letter) { x.To = n })
			refused(api.ErrLong, "124", func(x *letter.Letter) { x.Rows = []api.Row{{Time: 1}, {Node: n}} })
		}
		for _, n := range []uint64{above, above + 1, math.MaxUint64} {
			refused(api.ErrLong, "1234567", func(x *letter.Letter) { x.Serial = n })
			refused(api.ErrLong, "5", func(x *letter.Letter) { x.Time = n })
			refused(api.ErrLong, "12345", func(x *letter.Letter) { x.Have = vector.Vector{n} })
			refused(api.ErrLong, "12345", func(x *letter.Letter) { x.Have = vector.Vector{0, n, 1} })
			refused(api.ErrLong, "124", func(x *letter.Letter) { x.Rows = []api.Row{{Time: n}} })
			refused(api.ErrLong, "124", func(x *letter.Letter) { x.Rows = []api.Row{{Node: 1}, {Have: []uint64{n}}} })
		}
		for _, n := range []int{65, 66, 128, 1000} {
			refused(api.ErrLong, "12345", func(x *letter.Letter) { x.Have = slices.Repeat(vector.Vector{1}, n) })
			refused(api.ErrLong, "124", func(x *letter.Letter) { x.Rows = make([]api.Row, n) })
			refused(api.ErrLong, "124", func(x *letter.Letter) { x.Rows = []api.Row{{Have: slices.Repeat(vector.Vector{1}, n)}} })
		}
		for _, n := range []uint64{mostSize + 1, mostSize + 2, api.End, math.MaxUint64} {
			refused(api.ErrLong, "56", func(x *letter.Letter) { x.Size = n })
			refused(api.ErrLong, "6", func(x *letter.Letter) { x.At = n })
		}
		for _, n := range []api.Errno{-1, mostWhy + 1, mostWhy * 2, math.MaxInt, math.MinInt} {
			refused(api.ErrLong, "7", func(x *letter.Letter) { x.Why = n })
		}
		for _, e := range badEvents() {
			refused(api.ErrForm, "3", func(x *letter.Letter) { x.Events = []api.Event{e} })
			refused(api.ErrForm, "3", func(x *letter.Letter) { x.Events = append(events(), e) })
			refused(api.ErrForm, "3", func(x *letter.Letter) { x.Events = append([]api.Event{e}, events()...) })
		}
	}
}

// badEvents returns events that event.Decode refuses, with each of its errors.
func badEvents() []api.Event {
	good := api.Event{Writer: 1, Seq: 2, Time: 3, Kind: api.Set, Key: "k", Text: []byte("hi")}
	l := []api.Event{{}, {Kind: api.Retire}}
	for _, change := range []func(e *api.Event){
		func(e *api.Event) { e.Writer = 64 },
		func(e *api.Event) { e.Writer = -1 },
		func(e *api.Event) { e.Seq = 0 },
		func(e *api.Event) { e.Seq = above },
		func(e *api.Event) { e.Time = 0 },
		func(e *api.Event) { e.Time = above },
		func(e *api.Event) { e.Kind = 0 },
		func(e *api.Event) { e.Kind = 7 },
		func(e *api.Event) { e.Key = "" },
		func(e *api.Event) { e.Key = longKey + "k" },
		func(e *api.Event) { e.Text = make([]byte, api.MaxText+1) },
		func(e *api.Event) { e.Kind, e.Node = api.Join, 64 },
		func(e *api.Event) { e.Kind, e.Node = api.Join, -1 },
	} {
		e := good
		change(&e)
		l = append(l, e)
	}
	return l
}

// TestDecodeOfOtherEvents: each text that event.Decode refuses is ErrForm, whatever its error is.
func TestDecodeOfOtherEvents(t *testing.T) {
	drop := laidEvent(api.Event{Writer: 1, Seq: 2, Time: 3, Kind: api.Drop, Key: "k"})
	batch := func(l ...string) string {
		parts := append(headParts(letter.Letter{Kind: letter.Batch}), num(0, 0), num(uint64(len(l)), 0))
		for _, s := range l {
			parts = append(parts, textParts(s)...)
		}
		return sealed(joined(parts))
	}
	for i := range drop {
		wantRefused(t, batch(drop[:i]), api.ErrForm)
		wantRefused(t, batch(drop, drop[:i]), api.ErrForm)
		wantRefused(t, batch(drop[:i], drop), api.ErrForm)
		for b := range 256 {
			wantAsModel(t, batch(drop, drop[:i]+string([]byte{byte(b)})+drop[i+1:]))
		}
	}
	for _, s := range []string{drop + "\x00", drop + drop, "\x81\x00" + drop[1:], "\x01\x82\x00" + drop[2:], tall, after, "\x00\x01\x01\x02\x01k\x7f\xf8\x00\x00\x00\x00\x00\x00",
		"\x00\x01\x01\x04\x81\x00k", "\x00\x01\x01\x05\x40", "\x00\x01\x01\x06\x00"} {
		wantRefused(t, batch(s), api.ErrForm)
		wantRefused(t, batch(drop, s, drop), api.ErrForm)
	}
	wantDecoded(t, batch(drop, drop), letter.Letter{Kind: letter.Batch, Events: slices.Repeat([]api.Event{{Writer: 1, Seq: 2, Time: 3, Kind: api.Drop, Key: "k"}}, 2)})
}

// TestDecodeOfCounts: there is less than they say, or more.
func TestDecodeOfCounts(t *testing.T) {
	for _, k := range kinds[:4] {
		parts := partsOf(full(k))
		with := func(i int, n uint64) string {
			l := slices.Clone(parts)
			l[i] = num(n, 0)
			return sealed(joined(l))
		}
		have, count := 5, 9 // the places of the length of Have, and of the number of rows or events: Have has three numbers
		n := parts[count].n
		if parts[have].n != 3 || n != 2 {
			t.Fatalf("kind %d: %d, %d", k, parts[have].n, n)
		}
		wantRefused(t, with(count, n+1), api.ErrShort)
		wantRefused(t, with(count, 64), api.ErrShort)
		wantRefused(t, with(count, n-1), api.ErrForm)
		wantRefused(t, with(count, 0), api.ErrForm)
		wantRefused(t, with(count, above), api.ErrLong)
		wantRefused(t, with(count, math.MaxUint64), api.ErrLong)
		if k == letter.Batch {
			wantRefused(t, with(count, 65), api.ErrShort)
			wantRefused(t, with(count, 1<<32), api.ErrShort)
			wantRefused(t, with(count, api.End), api.ErrShort)
		} else {
			wantRefused(t, with(count, 65), api.ErrLong)
		}
		wantRefused(t, with(have, 64), api.ErrShort)
		wantRefused(t, with(have, 65), api.ErrLong)
	}
	chunk := partsOf(full(letter.Chunk))
	for n, want := range map[uint64]api.Errno{0: api.ErrForm, 4: api.ErrForm, 6: api.ErrShort, letter.Most: api.ErrShort, letter.Most + 1: api.ErrLong, math.MaxUint64: api.ErrLong} {
		chunk[7] = num(n, 0)
		wantRefused(t, sealed(joined(chunk)), want)
	}
}

// TestDecodeOfAVectorThatEndsWithZero: what Lay trims is refused.
func TestDecodeOfAVectorThatEndsWithZero(t *testing.T) {
	for n := 1; n <= 64; n++ {
		for _, v := range [][]uint64{make([]uint64, n), append(slices.Repeat([]uint64{api.End}, n-1), 0)} {
			laid := []part{num(uint64(n), 0)}
			for _, x := range v {
				laid = append(laid, num(x, 0))
			}
			s := joined(laid)
			for _, k := range kinds[:5] {
				head := joined(headParts(letter.Letter{Kind: k}))
				for _, rest := range []string{"", "\x00", "\x00\x00\x00", "\x00\x00\x00\x00", tall, after} {
					wantRefused(t, sealed(head+s+rest), api.ErrForm)
				}
				if k != letter.Batch && k != letter.Offer {
					wantRefused(t, sealed(head+"\x00\x01\x05"+s+"\x06"), api.ErrForm)
					wantRefused(t, sealed(head+"\x00\x02\x05\x01\x07\x06\x05"+s+"\x06"), api.ErrForm)
					wantRefused(t, sealed(head+"\x00\x02\x05"+s+"\x06\x05\x01\x07\x06"), api.ErrForm)
				}
			}
		}
	}
}

// TestDecodeOfTwoErrors: a tape reads from the front, and gives up at its first error; of the errors in what it has read
// until then, and its own, the one with the lowest number is returned.
func TestDecodeOfTwoErrors(t *testing.T) {
	for _, c := range []struct {
		contents string
		want     api.Errno
	}{
		{"\x02", api.ErrForm},
		{"\x80", api.ErrForm},
		{"\x01", api.ErrShort},
		{"\x01\x00", api.ErrForm},
		{"\x01\x08\x40", api.ErrForm},
		{"\x01\x07\x40", api.ErrLong},
		{"\x01\x07\x40" + tall, api.ErrLong},
		{"\x01\x07\x40\x00\x00\x00\x00\x00", api.ErrLong},
		{"\x01\x07\x00\x40\x02", api.ErrLong},
		{"\x01\x07\x00\x00\x02", api.ErrLong},
		{"\x01\x07\x80\x00\x40", api.ErrForm},
		{"\x01\x07\x00\x00\x00\x00\x81\x80\x04\x00", api.ErrLong},
		{"\x01\x01\x00\x00\x00\x00\x02\x01\x00\x41", api.ErrForm},
		{"\x01\x01\x00\x00\x00\x00\x00\x41" + tall, api.ErrLong},
		{"\x01\x01\x00\x00\x00\x00\x00\x02\x40", api.ErrLong},
		{"\x01\x01\x00\x00\x00\x00\x00\x02\x00\x01\x00", api.ErrForm},
		{"\x01\x01\x00\x00\x00\x00\x00\x02\x00\x00", api.ErrShort},
		{"\x01\x03\x00\x00\x00\x00\x00\x02\x00", api.ErrForm},
		{"\x01\x03\x00\x00\x00\x00\x00\x02\x01\x40\x80", api.ErrForm},
		{"\x01\x03\x00\x00\x00\x00\x00\x02\x06\x00\x01\x01\x04\x01k", api.ErrShort},
		{"\x01\x03\x00\x00\x00\x00\x00\x01\x81\x80\x80\x02", api.ErrLong},
		{"\x01\x05\x00\x00\x00\x00\x00\x00\x00\x80\x80\x80\x80\x10\x00", api.ErrLong},
		{"\x01\x05\x00\x00\x00\x00\x00\x00\x81\x80\x80\x80\x80\x20\x80\x00", api.ErrLong},
		{"\x01\x06\x00\x00\x00\x00\x00\x81\x80\x80\x80\x80\x20\x05", api.ErrLong},
	} {
		wantRefused(t, sealed(c.contents), c.want)
		wantAsModel(t, sealed(c.contents))
		wantRefused(t, sealed(c.contents)+"\x00", api.ErrForm)
		p := []byte(sealed(c.contents))
		p[len(p)-1] ^= 1
		wantRefused(t, string(p), api.ErrForm)
		wantRefused(t, string(p[:len(p)-1]), api.ErrShort)
	}
}

package letter_test

import (
	"encoding/binary"
	"fmt"
	"hash/crc32"
	"math"
	"math/rand"
	"slices"
	"strings"
	"testing"

	"anabranch/api"
	"anabranch/letter"
	"anabranch/vector"
)

const (
	above    = api.End + 1
	mostSize = 1 << 40
	mostWhy  = 65536
)

var (
	castagnoli   = crc32.MakeTable(crc32.Castagnoli)
	kinds        = []byte{1, 2, 3, 4, 5, 6, 7}
	negativeZero = math.Copysign(0, -1)
	plainNaN     = math.Float64frombits(0x7ff8000000000001)
	longKey      = strings.Repeat("k", api.MaxKey)
)

// The following functions make encodings without the program's packages.

// part is a part of the contents of a letter: a number, with the most that it may be, or other bytes.
type part struct {
	isNum   bool
	n, most uint64
	s       string
}

func num(n, most uint64) part { return part{isNum: true, n: n, most: most} }

func (p part) String() string {
	if p.isNum {
		return string(binary.AppendUvarint(nil, p.n))
	}
	return p.s
}

// joined returns the bytes of parts.
func joined(l []part) string {
	var b strings.Builder
	for _, p := range l {
		b.WriteString(p.String())
	}
	return b.String()
}

// textParts returns a text as LayText lays it (P2.1).
func textParts(s string) []part {
	return []part{num(uint64(len(s)), letter.Most), {s: s}}
}

// vectorParts returns a vector as Lay lays it (P7.2), without trailing zeros.
func vectorParts(v []uint64) []part {
	v = trimmed(v)
	l := []part{num(uint64(len(v)), 64)}
	for _, n := range v {
		l = append(l, num(n, api.End))
	}
	return l
}

// headParts returns what every letter begins with.
func headParts(x letter.Letter) []part {
	mine := uint64(0)
	if x.Mine {
		mine = 1
	}
	return []part{{s: string([]byte{1, x.Kind})}, num(uint64(x.From), 63), num(uint64(x.To), 63), num(mine, 1), num(x.Serial, api.End)}
}

// partsOf returns the contents of the encoding of a letter (P16.1).
func partsOf(x letter.Letter) []part {
	l := headParts(x)
	switch x.Kind {
	case 1, 2, 4:
		l = append(append(l, vectorParts(x.Have)...), num(uint64(len(x.Rows)), 64))
		for _, r := range x.Rows {
			l = append(append(append(l, num(uint64(r.Node), 63)), vectorParts(r.Have)...), num(r.Time, api.End))
		}
	case 3:
		l = append(append(l, vectorParts(x.Have)...), num(uint64(len(x.Events)), api.End))
		for _, e := range x.Events {
			l = append(l, textParts(laidEvent(e))...)
		}
	case 5:
		l = append(append(l, vectorParts(x.Have)...), num(x.Time, api.End), num(x.Size, mostSize), num(uint64(x.Sum), math.MaxUint32))
	case 6:
		l = append(append(l, num(x.Size, mostSize), num(x.At, mostSize)), textParts(string(x.Bytes))...)
	case 7:
		l = append(l, num(uint64(x.Why), mostWhy))
	}
	return l
}

// contents returns the contents of the record of a letter.
func contents(x letter.Letter) string { return joined(partsOf(x)) }

// sealed returns the record of these contents (P3.1).
func sealed(contents string) string {
	p := append(binary.AppendUvarint(nil, uint64(len(contents))), contents...)
	return string(binary.BigEndian.AppendUint32(p, crc32.Checksum(p, castagnoli)))
}

// encoded returns the encoding of a letter.
func encoded(x letter.Letter) string { return sealed(contents(x)) }

// laidEvent returns the encoding of an event (P6.2).
func laidEvent(e api.Event) string {
	p := binary.AppendUvarint(nil, uint64(e.Writer))
	p = append(binary.AppendUvarint(binary.AppendUvarint(p, e.Seq), e.Time), e.Kind)
	if 1 <= e.Kind && e.Kind <= 4 {
		p = append(binary.AppendUvarint(p, uint64(len(e.Key))), e.Key...)
	}
	switch e.Kind {
	case 1:
		p = append(binary.AppendUvarint(p, uint64(len(e.Text))), e.Text...)
	case 2, 3:
		p = binary.BigEndian.AppendUint64(p, math.Float64bits(plainNum(e.Num)))
	case 5:
		p = binary.AppendUvarint(p, uint64(e.Node))
	}
	return string(p)
}

// plainNum returns a quantity, whose NaN is the one of P1.1.
func plainNum(x float64) float64 {
	if x != x {
		return plainNaN
	}
	return x
}

// trimmed returns a vector without trailing zeros.
func trimmed(v []uint64) []uint64 {
	for len(v) > 0 && v[len(v)-1] == 0 {
		v = v[:len(v)-1]
	}
	return v
}

// plain returns what Decode returns for the encoding of a letter: the fields of its kind, vectors without trailing zeros,
// events without what their kinds do not use.
func plain(x letter.Letter) letter.Letter {
	y := letter.Letter{Kind: x.Kind, From: x.From, To: x.To, Mine: x.Mine, Serial: x.Serial}
	switch x.Kind {
	case 1, 2, 4:
		y.Have = trimmed(x.Have)
		for _, r := range x.Rows {
			y.Rows = append(y.Rows, api.Row{Node: r.Node, Have: trimmed(r.Have), Time: r.Time})
		}
	case 3:
		y.Have = trimmed(x.Have)
		for _, e := range x.Events {
			y.Events = append(y.Events, plainEvent(e))
		}
	case 5:
		y.Have, y.Time, y.Size, y.Sum = trimmed(x.Have), x.Time, x.Size, x.Sum
	case 6:
		y.Size, y.At, y.Bytes = x.Size, x.At, x.Bytes
	case 7:
		y.Why = x.Why
	}
	return y
}

func plainEvent(e api.Event) api.Event {
	x := api.Event{Writer: e.Writer, Seq: e.Seq, Time: e.Time, Kind: e.Kind}
	switch e.Kind {
	case 1:
		x.Key, x.Text = e.Key, e.Text
	case 2, 3:
		x.Key, x.Num = e.Key, plainNum(e.Num)
	case 4:
		x.Key = e.Key
	case 5:
		x.Node = e.Node
	}
	return x
}

// identical reports whether two letters are equal in every field, to the bit; nil and empty slices are equal.
func identical(a, b letter.Letter) bool {
	return a.Kind == b.Kind && a.From == b.From && a.To == b.To && a.Mine == b.Mine && a.Serial == b.Serial &&
		slices.Equal(a.Have, b.Have) && slices.EqualFunc(a.Rows, b.Rows, sameRow) && slices.EqualFunc(a.Events, b.Events, sameEvent) &&
		a.Time == b.Time && a.Size == b.Size && a.Sum == b.Sum && a.At == b.At && string(a.Bytes) == string(b.Bytes) && a.Why == b.Why
}

func sameRow(a, b api.Row) bool {
	return a.Node == b.Node && slices.Equal(a.Have, b.Have) && a.Time == b.Time
}

func sameEvent(a, b api.Event) bool {
	return a.Writer == b.Writer && a.Seq == b.Seq && a.Time == b.Time && a.Kind == b.Kind && a.Key == b.Key &&
		string(a.Text) == string(b.Text) && math.Float64bits(a.Num) == math.Float64bits(b.Num) && a.Node == b.Node
}

// brief tells what a letter is, and of long fields only how they begin.
func brief(x letter.Letter) string {
	return fmt.Sprintf("{kind %d from %d to %d %v %d have %.60s rows (%d) %.60s events (%d) %.80s time %d size %d sum %d at %d bytes (%d) %.20q why %d}",
		x.Kind, x.From, x.To, x.Mine, x.Serial, fmt.Sprint(x.Have), len(x.Rows), fmt.Sprint(x.Rows), len(x.Events), fmt.Sprint(x.Events),
		x.Time, x.Size, x.Sum, x.At, len(x.Bytes), x.Bytes, x.Why)
}

// full returns a letter of a kind in which every field has a value of its own, also those that the kind does not use. Each
// number of its encoding is one byte.
func full(kind byte) letter.Letter {
	return letter.Letter{
		Kind: kind, From: 1, To: 2, Mine: true, Serial: 3, Have: vector.Vector{4, 0, 5},
		Rows:   []api.Row{{Node: 6, Have: []uint64{7, 8}, Time: 9}, {Node: 10, Time: 11}},
		Events: []api.Event{{Writer: 12, Seq: 13, Time: 14, Kind: api.Drop, Key: "k"}, {Writer: 15, Seq: 16, Time: 17, Kind: api.Set, Key: "q", Text: []byte("hi")}},
		Time:   18, Size: 19, Sum: 20, At: 21, Bytes: []byte("bytes"), Why: 22,
	}
}

// most returns a letter of a kind in which every field is at its limit; it has no events, as a letter has no most of them.
func most(kind byte) letter.Letter {
	v := slices.Repeat(vector.Vector{api.End}, 64)
	return letter.Letter{
		Kind: kind, From: 63, To: 63, Mine: true, Serial: api.End, Have: v, Rows: slices.Repeat([]api.Row{{Node: 63, Have: v, Time: api.End}}, 64),
		Time: api.End, Size: mostSize, Sum: math.MaxUint32, At: mostSize, Why: mostWhy,
	}
}

// vectors returns vectors of which some have trailing zeros.
func vectors() []vector.Vector {
	last := make(vector.Vector, 64)
	last[63] = 7
	return []vector.Vector{nil, {}, {0}, {0, 0, 0}, {1}, {1, 0}, {0, 1}, {127, 128, 0, 300, 0, 0}, {api.End}, last, last[:63],
		slices.Repeat(vector.Vector{1}, 63), slices.Repeat(vector.Vector{1}, 64), slices.Repeat(vector.Vector{api.End}, 64)}
}

// events returns events of each kind, with fields that their kinds do not use, and at their limits.
func events() []api.Event {
	var l []api.Event
	for kind := api.Set; kind <= api.Retire; kind++ {
		l = append(l, api.Event{Writer: 1, Seq: 2, Time: 3, Kind: kind, Key: "key", Text: []byte("hi"), Num: 0.5, Node: 4})
		l = append(l, api.Event{Writer: 63, Seq: api.End, Time: api.End, Kind: kind, Key: longKey, Num: math.Inf(-1), Node: 63})
		l = append(l, api.Event{Seq: 1, Time: 1, Kind: kind, Key: "\xff", Text: []byte{}, Num: math.Float64frombits(math.MaxUint64)})
		l = append(l, api.Event{Seq: 128, Time: 300, Kind: kind, Key: "\x00", Text: []byte(strings.Repeat("t", 300)), Num: negativeZero})
	}
	return l
}

// vary returns copies of x with each of these values in each field.
func vary(x letter.Letter) []letter.Letter {
	var l []letter.Letter
	add := func(change func(y *letter.Letter)) {
		y := x
		change(&y)
		l = append(l, y)
	}
	for _, n := range []int{0, 1, 62, 63} {
		add(func(y *letter.Letter) { y.From = n })
		add(func(y *letter.Letter) { y.To = n })
	}
	add(func(y *letter.Letter) { y.Mine = !y.Mine })
	for _, n := range []uint64{0, 1, 127, 128, 300, api.End - 1, api.End} {
		add(func(y *letter.Letter) { y.Serial = n })
		add(func(y *letter.Letter) { y.Time = n })
		add(func(y *letter.Letter) { y.Rows = []api.Row{{Node: 1, Have: []uint64{2}, Time: n}} })
	}
	for _, v := range vectors() {
		add(func(y *letter.Letter) { y.Have = v })
		add(func(y *letter.Letter) { y.Rows = []api.Row{{Node: 1, Have: v, Time: 2}, {Node: 63, Have: v, Time: 2}} })
	}
	for _, n := range []int{0, 1, 2, 63, 64} {
		add(func(y *letter.Letter) {
			y.Rows = slices.Repeat([]api.Row{{Node: max(n-1, 0), Have: []uint64{1}, Time: 5}}, n)
		})
		add(func(y *letter.Letter) { y.Rows = make([]api.Row, n) })
	}
	for _, e := range events() {
		add(func(y *letter.Letter) { y.Events = []api.Event{e} })
	}
	add(func(y *letter.Letter) { y.Events = nil })
	add(func(y *letter.Letter) { y.Events = events() })
	add(func(y *letter.Letter) { y.Events = slices.Repeat(events()[:1], 128) })
	for _, n := range []uint64{0, 1, 127, 128, 1 << 32, mostSize - 1, mostSize} {
		add(func(y *letter.Letter) { y.Size = n })
		add(func(y *letter.Letter) { y.At = n })
	}
	for _, n := range []uint32{0, 1, 127, 128, 1 << 31, math.MaxUint32} {
		add(func(y *letter.Letter) { y.Sum = n })
	}
	for _, n := range []int{0, 1, 127, 128, 20000} {
		add(func(y *letter.Letter) { y.Bytes = []byte(strings.Repeat("\xfe", n)) })
	}
	add(func(y *letter.Letter) { y.Bytes = nil })
	for _, n := range []api.Errno{0, 1, api.ErrOff, 127, 128, mostWhy - 1, mostWhy} {
		add(func(y *letter.Letter) { y.Why = n })
	}
	return l
}

// small returns letters of each kind whose encodings are short.
func small() []letter.Letter {
	var l []letter.Letter
	for _, k := range kinds {
		l = append(l, letter.Letter{Kind: k}, full(k), letter.Letter{Kind: k, From: 63, To: 62, Serial: 300, Have: vector.Vector{0, 128},
			Rows: []api.Row{{Have: []uint64{0, 0, 300}}}, Events: events()[:3], Size: 1 << 20, Sum: 1 << 30, Bytes: []byte{0}, Why: 128})
	}
	return l
}

// samples returns letters of each kind with each value of each field, the others empty, with a value, and at their limits.
func samples() []letter.Letter {
	l := small()
	for _, k := range kinds {
		for _, x := range []letter.Letter{{Kind: k}, full(k), most(k)} {
			l = append(l, vary(x)...)
		}
	}
	return l
}

func randomVector(r *rand.Rand) vector.Vector {
	v := make(vector.Vector, r.Intn(4))
	for w := range v {
		v[w] = randomNum(r, api.End) * uint64(r.Intn(2))
	}
	return v
}

// randomNum returns a number from 0 to most, of any length.
func randomNum(r *rand.Rand, most uint64) uint64 {
	return min(r.Uint64()>>r.Intn(64), most)
}

func randomLetter(r *rand.Rand) letter.Letter {
	x := letter.Letter{Kind: kinds[r.Intn(len(kinds))], From: r.Intn(64), To: r.Intn(64), Mine: r.Intn(2) == 0, Serial: randomNum(r, api.End), Have: randomVector(r)}
	for range r.Intn(4) {
		x.Rows = append(x.Rows, api.Row{Node: r.Intn(64), Have: randomVector(r), Time: randomNum(r, api.End)})
	}
	l := events()
	for range r.Intn(4) {
		e := l[r.Intn(len(l))]
		e.Seq, e.Time, e.Num = max(randomNum(r, api.End), 1), max(randomNum(r, api.End), 1), r.NormFloat64()
		x.Events = append(x.Events, e)
	}
	x.Time, x.Size, x.At = randomNum(r, api.End), randomNum(r, mostSize), randomNum(r, mostSize)
	x.Sum, x.Why = r.Uint32()>>r.Intn(32), api.Errno(r.Intn(mostWhy+1))
	x.Bytes = make([]byte, r.Intn(40))
	r.Read(x.Bytes)
	return x
}

// wantRefused checks that Decode refuses p with this error, and returns no letter.
func wantRefused(t *testing.T, p string, want api.Errno) {
	t.Helper()
	if x, e := letter.Decode([]byte(p)); e != want || !identical(x, letter.Letter{}) {
		t.Fatalf("Decode(%.100q) (%d bytes) = %s, %d, want no letter and the error %d", p, len(p), brief(x), e, want)
	}
}

// wantDecoded checks that Decode of p returns that letter.
func wantDecoded(t *testing.T, p string, want letter.Letter) {
	t.Helper()
	if x, e := letter.Decode([]byte(p)); e != api.OK || !identical(x, want) {
		t.Fatalf("Decode(%.100q) (%d bytes) = %s, %d, want %s", p, len(p), brief(x), e, brief(want))
	}
}

package fold_test

import (
	"encoding/binary"
	"fmt"
	"math"
	"math/rand"
	"slices"
	"strings"
	"testing"

	"anabranch/api"
	"anabranch/fold"
)

const (
	tall  = "\xff\xff\xff\xff\xff\xff\xff\xff\xff\x02" // a number of more than 64 bits
	over  = "\x80\x80\x80\x80\x80\x80\x80\x80\x80\x01" // the number End + 1
	above = api.End + 1
)

// sixteen is what two masks without nodes are.
const sixteen = "\x00\x00\x00\x00\x00\x00\x00\x00\x00\x00\x00\x00\x00\x00\x00\x00"

// The tests of P11.3.

func TestEncode(t *testing.T) {
	for _, c := range []struct {
		nodes int
		l     []api.Event
		want  string
	}{
		{0, nil, "\x00\x00\x00" + sixteen + "\xcb\xf2\x9c\xe4\x84\x22\x23\x25\x00"},
		{2, nil, "\x00\x00\x00\x00\x00\x00\x00\x00\x00\x00\x03" + sixteen[:8] + "\xcb\xf2\x9c\xe4\x84\x22\x23\x25\x00"},
		{64, nil, "\x00\x00\x00\xff\xff\xff\xff\xff\xff\xff\xff" + sixteen[:8] + "\xcb\xf2\x9c\xe4\x84\x22\x23\x25\x00"},
		{0, []api.Event{at(drop("a"), 0, 1, 1)}, "\x01\x01\x01\x00" + sixteen + "\x8d\xd3\x2c\xd8\x16\x20\xa6\x41\x00"},
	} {
		p := begin(c.nodes)
		for _, e := range c.l {
			p.try(t, e)
		}
		if got := string(p.f.Encode()); got != c.want {
			t.Errorf("Encode() = %q, want %q", got, c.want)
		}
	}
	p := begin(1)
	p.try(t, at(set("b", "hi"), 0, 1, 1))
	p.try(t, at(put("a", 0.5), 2, 1, 1))
	p.try(t, at(join(63), 0, 2, 299))
	p.try(t, at(retire(), 2, 2, 300))
	got := string(p.f.Encode())
	if head := "\x03\x02\x00\x02\xac\x02\x02\x80\x00\x00\x00\x00\x00\x00\x01\x00\x00\x00\x00\x00\x00\x00\x04"; got[:23] != head {
		t.Errorf("Encode() = %q, want %q", got[:23], head)
	}
	if m := binary.BigEndian.Uint64([]byte(got[23:31])); m != p.mark() {
		t.Errorf("the mark is %x, want %x", m, p.mark())
	}
	if tail := "\x02\x01a\x02\x3f\xe0\x00\x00\x00\x00\x00\x00\x01b\x01\x02hi"; got[31:] != tail {
		t.Errorf("Encode() = %q, want %q", got[31:], tail)
	}
}

// TestEncodeDependsOnTheStateAlone: not on how it came about, nor on the order in which a map is gone through.
func TestEncodeDependsOnTheStateAlone(t *testing.T) {
	p := begin(1)
	for i := range 300 {
		p.apply(t, i%64, set(fmt.Sprint(i*7919%300), "x"))
	}
	want := laid(p.parts())
	for range 20 {
		c := p.split()
		f, e := fold.Decode([]byte(want))
		wantError(t, "Decode", e, api.OK)
		if string(c.f.Encode()) != want || string(f.Encode()) != want {
			t.Fatalf("%q, %q", c.f.Encode(), f.Encode())
		}
	}
}

// wantRefused checks that Decode refuses p with this error, and returns no fold.
func wantRefused(t *testing.T, p string, want api.Errno) {
	t.Helper()
	if f, e := fold.Decode([]byte(p)); e != want || f != nil {
		t.Errorf("Decode(%.100q): a fold %v, %d, want none and %d", p, f != nil, e, want)
	}
}

// wantDecoded checks that Decode returns the fold of p, and returns it.
func wantDecoded(t *testing.T, p string) *fold.Fold {
	t.Helper()
	f, e := fold.Decode([]byte(p))
	if got := string(f.Encode()); e != api.OK || got != p {
		t.Fatalf("Decode(%.100q): %d, Encode() = %.100q", p, e, got)
	}
	return f
}

func TestDecodeIsTheInverseOfEncode(t *testing.T) {
	for _, p := range plays(t) {
		f := wantDecoded(t, laid(p.parts()))
		q := &play{f: f, nodes: p.nodes, l: slices.Clone(p.l)}
		wantState(t, "Decode", q)
		for _, x := range []*play{p, q} {
			x.apply(t, 1, set("k", "behind"), add("q", 1), drop("u"), join(7))
			x.apply(t, 7, retire())
			wantState(t, "events behind Decode", x)
		}
		if string(p.f.Encode()) != string(q.f.Encode()) {
			t.Errorf("%q, %q", p.f.Encode(), q.f.Encode())
		}
		for _, e := range p.l {
			q.try(t, e) // they come before the last one
		}
		wantState(t, "refused events behind Decode", q)
	}
}

func TestDecodeOfTheLongest(t *testing.T) {
	p := begin(64)
	p.apply(t, 63, set(longKey, string(longText)), set(longKey[1:], string(longText)), put(longKey[2:], 1))
	wantDecoded(t, laid(p.parts()))
	for _, x := range []parts{
		{have: slices.Repeat([]uint64{api.End}, 64), time: api.End, writer: 63, joined: math.MaxUint64, retired: math.MaxUint64, mark: math.MaxUint64},
		{have: append(make([]uint64, 63), 1)},
	} {
		f := wantDecoded(t, laid(x))
		if !slices.Equal(f.Have(), x.have) || f.Last() != (api.Spot{Time: x.time, Writer: int(x.writer)}) || f.Mark() != x.mark {
			t.Errorf("%v, %v, %x", f.Have(), f.Last(), f.Mark())
		}
	}
}

// TestDecodeOfManyKeys: they are not copied again for each one.
func TestDecodeOfManyKeys(t *testing.T) {
	var cells []string
	for i := range 100000 {
		cells = append(cells, laidText(fmt.Sprintf("%08d", i))+laidNum(math.Float64bits(float64(i))))
	}
	f := wantDecoded(t, laid(parts{count: 100000, cells: cells}))
	wantCell(t, f, "00054321", api.Cell{Kind: api.Put, Num: 54321})
	if l := f.Keys(); len(l) != 100000 || !slices.IsSorted(l) {
		t.Errorf("%d keys", len(l))
	}
}

// TestDecodeOfNumbersWithoutEvents: whether events lead to them is not examined.
func TestDecodeOfNumbersWithoutEvents(t *testing.T) {
	x := parts{have: []uint64{0, 3}, time: 7, writer: 5, joined: 1<<63 | 1<<2, retired: 1<<2 | 1<<4, mark: 99, count: 2,
		cells: []string{laidText("a") + "\x01" + laidText("x"), laidText("b") + laidNum(1<<63)}}
	f := wantDecoded(t, laid(x))
	if !slices.Equal(f.Members(), []int{63}) || !f.Retired(2) || !f.Retired(4) || f.Joined(4) || f.Mark() != 99 || f.Last() != (api.Spot{Time: 7, Writer: 5}) {
		t.Errorf("%v, %v, %v, %v, %x", f.Members(), f.Retired(2), f.Retired(4), f.Last(), f.Mark())
	}
	wantCell(t, f, "a", api.Cell{Kind: api.Set, Text: []byte("x")})
	wantCell(t, f, "b", api.Cell{Kind: api.Put, Num: negativeZero})
	wantError(t, "Apply at the last position", f.Apply(at(drop("a"), 5, 1, 7)), api.ErrOld)
	wantError(t, "Apply of number 3", f.Apply(at(drop("a"), 1, 3, 8)), api.ErrGap)
	wantError(t, "Apply of number 4", f.Apply(at(drop("a"), 1, 4, 8)), api.OK)
	for _, x := range []parts{{time: 7}, {writer: 63}, {have: []uint64{1}}, {retired: math.MaxUint64}, {mark: 1}} {
		wantDecoded(t, laid(x))
	}
}

// TestDecodeOfMasks: each bit is a node.
func TestDecodeOfMasks(t *testing.T) {
	for n := range 64 {
		joined := wantDecoded(t, laid(parts{joined: 1 << n}))
		retired := wantDecoded(t, laid(parts{retired: 1 << n}))
		both := wantDecoded(t, laid(parts{joined: math.MaxUint64, retired: 1 << n}))
		for k := range 64 {
			if joined.Joined(k) != (k == n) || joined.Retired(k) || retired.Retired(k) != (k == n) || retired.Joined(k) || both.Member(k) != (k != n) {
				t.Errorf("bit %d, node %d", n, k)
			}
		}
	}
}

// TestDecodeOfWhatIsCutOff: no encoding is the beginning of another one.
func TestDecodeOfWhatIsCutOff(t *testing.T) {
	for _, p := range plays(t) {
		whole := laid(p.parts())
		for i := range whole {
			wantRefused(t, whole[:i], api.ErrShort)
		}
	}
	for _, p := range [][]byte{nil, {}} {
		if f, e := fold.Decode(p); f != nil || e != api.ErrShort {
			t.Errorf("Decode of nothing: a fold %v, %d", f != nil, e)
		}
	}
}

func TestDecodeWithBytesBehind(t *testing.T) {
	for _, p := range plays(t) {
		whole := laid(p.parts())
		for _, tail := range []string{"\x00", "\x01", "a", "\x80", "\x80\x00", over, laidText("\xff\xff\xff") + laidNum(0), whole} {
			wantRefused(t, whole+tail, api.ErrForm)
		}
	}
}

// sample has a value in every part, each number of one byte.
var sample = parts{have: []uint64{1, 2}, time: 3, writer: 1, joined: 7, retired: 2, mark: 5, count: 3, cells: []string{
	laidText("b") + "\x01" + laidText("text"), laidText("k") + laidNum(0x3ff0000000000000), laidText("kk") + "\x01\x00",
}}

// TestDecodeOfOtherParts: one part of an encoding is what Encode writes for no fold.
func TestDecodeOfOtherParts(t *testing.T) {
	wantDecoded(t, laid(sample))
	for _, c := range []struct {
		change func(x *parts)
		want   api.Errno
	}{
		{func(x *parts) { x.have = []uint64{0} }, api.ErrForm},
		{func(x *parts) { x.have = []uint64{1, 2, 0} }, api.ErrForm},
		{func(x *parts) { x.have = make([]uint64, 64) }, api.ErrForm},
		{func(x *parts) { x.have = slices.Repeat([]uint64{1}, 65) }, api.ErrLong},
		{func(x *parts) { x.have = make([]uint64, 65) }, api.ErrLong},
		{func(x *parts) { x.have = []uint64{above} }, api.ErrLong},
		{func(x *parts) { x.have = []uint64{math.MaxUint64, 1} }, api.ErrLong},
		{func(x *parts) { x.time = above }, api.ErrLong},
		{func(x *parts) { x.time = math.MaxUint64 }, api.ErrLong},
		{func(x *parts) { x.writer = 64 }, api.ErrLong},
		{func(x *parts) { x.writer = 1 << 32 }, api.ErrLong},
		{func(x *parts) { x.writer = 1<<63 | 1 }, api.ErrLong},
		{func(x *parts) { x.count = 0 }, api.ErrForm},
		{func(x *parts) { x.count = 2 }, api.ErrForm},
		{func(x *parts) { x.count = 4 }, api.ErrShort},
		{func(x *parts) { x.count = api.End }, api.ErrShort},
		{func(x *parts) { x.count = above }, api.ErrLong},
		{func(x *parts) { x.count = math.MaxUint64 }, api.ErrLong},
	} {
		x := sample
		c.change(&x)
		wantRefused(t, laid(x), c.want)
	}
}

// TestDecodeOfOtherCells: a key or a value that no Encode writes.
func TestDecodeOfOtherCells(t *testing.T) {
	text, num := "\x01"+laidText("x"), laidNum(0)
	for _, c := range []struct {
		cells []string
		want  api.Errno
	}{
		{[]string{laidText("k") + text}, api.OK},
		{[]string{laidText("k") + num}, api.OK},
		{[]string{laidText("") + text}, api.ErrForm},
		{[]string{laidText("") + num}, api.ErrForm},
		{[]string{laidText(longKey) + num}, api.OK},
		{[]string{laidText(longKey+"k") + num}, api.ErrLong},
		{[]string{laidText(strings.Repeat("k", 128)) + num}, api.ErrLong},
		{[]string{"\x41"}, api.ErrLong},
		{[]string{over}, api.ErrLong},
		{[]string{tall}, api.ErrForm},
		{[]string{"\x81\x00k" + num}, api.ErrForm},
		{[]string{laidText("b") + num, laidText("a") + num}, api.ErrForm},
		{[]string{laidText("b") + num, laidText("b") + num}, api.ErrForm},
		{[]string{laidText("b") + num, laidText("b") + text}, api.ErrForm},
		{[]string{laidText("ab") + num, laidText("a") + text}, api.ErrForm},
		{[]string{laidText("a") + num, laidText("aa") + text}, api.OK},
		{[]string{laidText("a") + num, laidText("B") + text}, api.ErrForm},
		{[]string{laidText("a") + num, laidText("\xff") + text}, api.OK},
		{[]string{laidText("\x80") + num, laidText("\x7f") + text}, api.ErrForm},
		{[]string{laidText("a") + num, laidText("c") + num, laidText("b") + num}, api.ErrForm},
		{[]string{laidText("a") + num, laidText("c") + num, laidText("a") + num}, api.ErrForm},
		{[]string{laidText("a") + num, laidText("") + num}, api.ErrForm},
		{[]string{laidText("k") + "\x01" + laidText(string(longText))}, api.OK},
		{[]string{laidText("k") + "\x01" + laidText(string(longText)+"t")}, api.ErrLong},
		{[]string{laidText("k") + "\x01\x81\x80\x40"}, api.ErrLong},
		{[]string{laidText("k") + "\x01" + over}, api.ErrLong},
		{[]string{laidText("k") + "\x01" + tall}, api.ErrForm},
		{[]string{laidText("k") + "\x01\x81\x00x"}, api.ErrForm},
		{[]string{laidText("k") + "\x01\x02x"}, api.ErrShort},
		{[]string{laidText("k") + "\x02\x00\x00\x00\x00\x00\x00\x00"}, api.ErrShort},
		{[]string{laidText("k")}, api.ErrShort},
	} {
		for _, x := range []parts{{}, {have: []uint64{9}, time: 9, joined: 9, mark: 9}} {
			x.cells, x.count = c.cells, uint64(len(c.cells))
			if c.want == api.OK {
				wantDecoded(t, laid(x))
			} else {
				wantRefused(t, laid(x), c.want)
			}
		}
	}
}

// TestDecodeOfKinds: values are of the kinds Set and Put.
func TestDecodeOfKinds(t *testing.T) {
	for kind := range 256 {
		for _, data := range []string{"", "\x00", "\x01x", "\x3f\xf0\x00\x00\x00\x00\x00\x00", "\x08\x00\x00\x00\x00\x00\x00\x00\x00"} {
			p := laid(parts{count: 1, cells: []string{laidText("k") + string([]byte{byte(kind)}) + data}})
			if byte(kind) == api.Set || byte(kind) == api.Put {
				wantAsModel(t, p)
			} else {
				wantRefused(t, p, api.ErrForm)
			}
		}
	}
}

// TestDecodeOfQuantities: only the bits that a quantity has.
func TestDecodeOfQuantities(t *testing.T) {
	of := func(bits uint64) string {
		return laid(parts{count: 1, cells: []string{laidText("k") + laidNum(bits)}})
	}
	for _, x := range []float64{0, negativeZero, 1, -0.1, 5e-324, math.MaxFloat64, math.Inf(1), math.Inf(-1), plainNaN} {
		wantCell(t, wantDecoded(t, of(math.Float64bits(x))), "k", api.Cell{Kind: api.Put, Num: x})
	}
	for _, bits := range []uint64{
		0x7ff8000000000000, 0x7ff8000000000002, 0x7ff0000000000001, 0x7fffffffffffffff, 0xfff8000000000001, 0xfff8000000000000,
		0xfff0000000000001, math.MaxUint64,
	} {
		wantRefused(t, of(bits), api.ErrForm)
	}
}

// TestDecodeOfLongerNumbers: every number has one encoding.
func TestDecodeOfLongerNumbers(t *testing.T) {
	p := laid(sample)
	for _, i := range []int{0, 1, 2, 3, 4, 29, 30, 33, 38, 49, 53} { // its numbers are one byte each
		wantRefused(t, p[:i]+string([]byte{p[i] | 0x80, 0})+p[i+1:], api.ErrForm)
		wantRefused(t, p[:i]+tall+p[i+1:], api.ErrForm)
		wantRefused(t, p[:i]+over+p[i+1:], api.ErrLong)
		wantRefused(t, p[:i]+"\x80", api.ErrShort)
	}
}

// TestDecodeOfTwoErrors: a tape reads from the front, and gives up at its first error; of the errors in what it has read
// until then, and its own, the one with the lowest number is returned.
func TestDecodeOfTwoErrors(t *testing.T) {
	head := laid(parts{count: 1})
	for _, c := range []struct {
		p    string
		want api.Errno
	}{
		{"\x02\x01\x00", api.ErrForm},
		{"\x01\x00\x80", api.ErrForm},
		{"\x01\x00" + over + "\x40", api.ErrForm},
		{"\x01\x00\x03\x40", api.ErrForm},
		{"\x02\x00", api.ErrShort},
		{"\x02" + over + "\x00\x00", api.ErrLong},
		{"\x41" + strings.Repeat("\x00", 90), api.ErrLong},
		{"\x00" + over + "\x40", api.ErrLong},
		{"\x00" + over + tall, api.ErrLong},
		{"\x00\x00\x40", api.ErrLong},
		{"\x00\x00\x00" + sixteen, api.ErrShort},
		{head[:27] + over, api.ErrLong},
		{head + "\x00", api.ErrForm},
		{head + "\x00\x02\x00", api.ErrForm},
		{head + "\x00\x03", api.ErrForm},
		{head + "\x41\x03", api.ErrLong},
		{head + "\x01k\x03" + over, api.ErrForm},
		{head + "\x01k\x02\xff\xff\xff\xff\xff\xff\xff", api.ErrShort},
		{head + "\x01k\x02\xff\xff\xff\xff\xff\xff\xff\xff\xff", api.ErrForm},
		{head + "\x01k\x01\x81\x80\x40xx", api.ErrLong},
		{head[:27] + "\x02\x01b\x01\x00\x01a", api.ErrForm},
		{head[:27] + "\x02\x01b\x01\x00\x01a\x03", api.ErrForm},
		{head[:27] + "\x02\x01b\x01\x00\x01a\x01" + over, api.ErrForm},
		{head[:27] + "\x02\x01b\x01\x00", api.ErrShort},
		{head[:27] + "\x02\x01b\x07\x00\x41", api.ErrForm},
	} {
		wantRefused(t, c.p, c.want)
		wantAsModel(t, c.p)
	}
}

// reader reads an encoding as P2.1 and P2.2 say, without the program's packages; e is its first error.
type reader struct {
	p string
	e api.Errno
}

// fail keeps the first error.
func (r *reader) fail(e api.Errno, wrong bool) {
	if wrong && r.e == api.OK {
		r.e = e
	}
}

// bytes reads n bytes.
func (r *reader) bytes(n int) string {
	r.fail(api.ErrShort, n > len(r.p))
	if r.e != api.OK {
		return strings.Repeat("\x00", min(n, 8))
	}
	s := r.p[:n]
	r.p = r.p[n:]
	return s
}

func (r *reader) num(most uint64) uint64 {
	n, used := binary.Uvarint([]byte(r.p))
	r.fail(api.ErrShort, used == 0 && len(r.p) < binary.MaxVarintLen64)
	r.fail(api.ErrForm, used <= 0 || used > 1 && r.p[used-1] == 0)
	r.fail(api.ErrLong, n > most)
	if r.e != api.OK {
		return 0
	}
	r.p = r.p[used:]
	return n
}

func (r *reader) text(most uint64) string { return r.bytes(int(r.num(most))) }
func (r *reader) fixed() uint64           { return binary.BigEndian.Uint64([]byte(r.bytes(8))) }

// model returns the error that P11.3 says Decode returns.
func model(p string) api.Errno {
	r := &reader{p: p}
	have := make([]uint64, r.num(64))
	for w := range have {
		have[w] = r.num(api.End)
	}
	r.fail(api.ErrForm, len(have) > 0 && have[len(have)-1] == 0)
	r.num(api.End)
	r.num(63)
	for range 3 {
		r.fixed()
	}
	n, last := r.num(api.End), ""
	for ; n > 0 && r.e == api.OK; n-- {
		key := r.text(64)
		r.fail(api.ErrForm, key <= last)
		last = key
		switch kind := r.bytes(1); kind[0] {
		case api.Set:
			r.text(1 << 20)
		case api.Put:
			x := r.fixed()
			r.fail(api.ErrForm, x != math.Float64bits(plain(math.Float64frombits(x))))
		default:
			r.fail(api.ErrForm, true)
		}
	}
	r.fail(api.ErrForm, r.p != "")
	return r.e
}

// wantAsModel checks that Decode returns what the model returns, and accepts nothing but encodings.
func wantAsModel(t *testing.T, p string) api.Errno {
	t.Helper()
	e := model(p)
	if e == api.OK {
		wantDecoded(t, p)
	} else {
		wantRefused(t, p, e)
	}
	if t.Failed() {
		t.FailNow()
	}
	return e
}

// TestDecodeOfOtherBytes: one byte of an encoding is another one, or not there, or there twice.
func TestDecodeOfOtherBytes(t *testing.T) {
	whole := []string{laid(sample)}
	for _, p := range plays(t)[3:6] {
		whole = append(whole, laid(p.parts()))
	}
	for _, w := range whole {
		p := []byte(w)
		for i := range p {
			for b := range 256 {
				other := slices.Clone(p)
				other[i] = byte(b)
				wantAsModel(t, string(other))
			}
			wantAsModel(t, string(slices.Delete(slices.Clone(p), i, i+1)))
			wantAsModel(t, string(slices.Insert(slices.Clone(p), i, p[i])))
		}
	}
}

// TestDecodeOfAnything is P1, too.
func TestDecodeOfAnything(t *testing.T) {
	r := rand.New(rand.NewSource(114))
	whole := []string{laid(sample), laid(parts{count: 1, cells: sample.cells[:1]})}
	for range 50 {
		whole = append(whole, laid(random(t, r, r.Intn(30)).parts()))
	}
	count := map[api.Errno]int{}
	for range 100000 {
		p := []byte(whole[r.Intn(len(whole))])
		for range r.Intn(4) {
			p[r.Intn(len(p))] ^= 1 << r.Intn(8)
		}
		if r.Intn(4) == 0 {
			p = p[:r.Intn(len(p)+1)]
		}
		count[wantAsModel(t, string(p))]++
	}
	for _, e := range []api.Errno{api.OK, api.ErrForm, api.ErrShort, api.ErrLong} {
		if count[e] < 1000 {
			t.Errorf("the error %d only %d times", e, count[e])
		}
	}
}

// TestDecodeDoesNotKeepItsArgument is the rule on memory.
func TestDecodeDoesNotKeepItsArgument(t *testing.T) {
	want := laid(sample)
	p := []byte(want + "behind")
	f, e := fold.Decode(p[:len(want)])
	wantError(t, "Decode", e, api.OK)
	if string(p) != want+"behind" {
		t.Errorf("the encoding became %q", p)
	}
	clear(p)
	if got := string(f.Encode()); got != want {
		t.Errorf("Encode() = %q, want %q", got, want)
	}
	other := wantDecoded(t, want)
	wantError(t, "Apply", other.Apply(at(drop("k"), 0, 2, 4)), api.OK)
	if got := string(f.Encode()); got != want {
		t.Errorf("Encode() = %q, want %q", got, want)
	}
}

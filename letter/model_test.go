package letter_test

import (
	"encoding/binary"
	"hash/crc32"
	"math"
	"math/rand"
	"slices"
	"testing"

	"anabranch/api"
	"anabranch/letter"
)

// reader reads as P2.1 and P2.2 say, without the program's packages; e is its first error.
type reader struct {
	p string
	e api.Errno
}

// fail keeps the first error.
func (r *reader) fail(e api.Errno, wrong bool) {
	if wrong && r.e == api.OK {
		r.e = e
	}
}

// bytes reads n bytes; with an error it returns none.
func (r *reader) bytes(n uint64) string {
	r.fail(api.ErrShort, n > uint64(len(r.p)))
	if r.e != api.OK {
		return ""
	}
	s := r.p[:n]
	r.p = r.p[n:]
	return s
}

// one reads a byte.
func (r *reader) one() byte {
	if s := r.bytes(1); s != "" {
		return s[0]
	}
	return 0
}

func (r *reader) num(most uint64) uint64 {
	n, used := binary.Uvarint([]byte(r.p[:min(len(r.p), 11)]))
	r.fail(api.ErrShort, used == 0 && len(r.p) < binary.MaxVarintLen64)
	r.fail(api.ErrForm, used <= 0 || used > 1 && r.p[used-1] == 0)
	r.fail(api.ErrLong, n > most)
	if r.e != api.OK {
		return 0
	}
	r.p = r.p[used:]
	return n
}

func (r *reader) text(most uint64) string { return r.bytes(r.num(most)) }
func (r *reader) node() int               { return int(r.num(63)) }

// vector reads a vector that does not end with 0.
func (r *reader) vector() []uint64 {
	v := make([]uint64, r.num(64))
	for w := range v {
		v[w] = r.num(api.End)
	}
	r.fail(api.ErrForm, len(v) > 0 && v[len(v)-1] == 0)
	return v
}

// modelEvent returns the event whose encoding is p, and false if event.Decode refuses p (P6.2).
func modelEvent(p string) (api.Event, bool) {
	r := &reader{p: p}
	e := api.Event{Writer: r.node(), Seq: r.num(api.End), Time: r.num(api.End), Kind: r.one()}
	if 1 <= e.Kind && e.Kind <= 4 {
		e.Key = r.text(64)
		r.fail(api.ErrForm, e.Key == "")
	}
	switch e.Kind {
	case 1:
		e.Text = []byte(r.text(1 << 20))
	case 2, 3:
		bits := []byte(r.bytes(8) + "\x00\x00\x00\x00\x00\x00\x00\x00")
		e.Num = math.Float64frombits(binary.BigEndian.Uint64(bits))
		r.fail(api.ErrForm, math.Float64bits(plainNum(e.Num)) != math.Float64bits(e.Num))
	case 5:
		e.Node = r.node()
	}
	return e, r.e == api.OK && r.p == "" && e.Seq > 0 && e.Time > 0 && 1 <= e.Kind && e.Kind <= 6
}

// rows and events read what a letter has of these.
func (r *reader) rows() (l []api.Row) {
	for n := r.num(64); n > 0 && r.e == api.OK; n-- {
		l = append(l, api.Row{Node: r.node(), Have: r.vector(), Time: r.num(api.End)})
	}
	return l
}

func (r *reader) events() (l []api.Event) {
	for n := r.num(api.End); n > 0 && r.e == api.OK; n-- {
		e, ok := modelEvent(r.text(4194304))
		r.fail(api.ErrForm, !ok)
		l = append(l, e)
	}
	return l
}

// letter reads the contents of a record.
func (r *reader) letter() (x letter.Letter) {
	r.fail(api.ErrForm, r.one() != 1)
	x.Kind = r.one()
	r.fail(api.ErrForm, x.Kind < 1 || x.Kind > 7)
	x.From, x.To, x.Mine, x.Serial = r.node(), r.node(), r.num(1) == 1, r.num(api.End)
	if x.Kind < 6 {
		x.Have = r.vector()
	}
	switch x.Kind {
	case 1, 2, 4:
		x.Rows = r.rows()
	case 3:
		x.Events = r.events()
	case 5:
		x.Time, x.Size, x.Sum = r.num(api.End), r.num(mostSize), uint32(r.num(math.MaxUint32))
	case 6:
		x.Size, x.At, x.Bytes = r.num(mostSize), r.num(mostSize), []byte(r.text(4194304))
	case 7:
		x.Why = api.Errno(r.num(65536))
	}
	r.fail(api.ErrForm, r.p != "")
	return x
}

// model returns what P16.2 says Decode returns; the letter counts only without an error.
func model(p string) (letter.Letter, api.Errno) {
	r := &reader{p: p}
	inner := r.text(4194304)
	sum := crc32.Checksum([]byte(p[:len(p)-len(r.p)]), castagnoli)
	r.fail(api.ErrForm, string(binary.BigEndian.AppendUint32(nil, sum)) != r.bytes(4) && r.e == api.OK)
	r.fail(api.ErrForm, r.p != "")
	if r.e != api.OK {
		return letter.Letter{}, r.e
	}
	r.p = inner
	return r.letter(), r.e
}

// wantAsModel checks that Decode returns what the model returns, and accepts nothing but encodings.
func wantAsModel(t *testing.T, p string) api.Errno {
	t.Helper()
	x, e := model(p)
	if e != api.OK {
		wantRefused(t, p, e)
	} else {
		wantDecoded(t, p, x)
		if encoded(x) != p || string(letter.Encode(x)) != p {
			t.Fatalf("Encode(%s) = %.100q, want %.100q", brief(x), letter.Encode(x), p)
		}
	}
	return e
}

// changed calls do with p with each other value of each byte, without each byte, and with it twice.
func changed(p string, do func(q string)) {
	for i := range p {
		q := []byte(p)
		for b := range 256 {
			q[i] = byte(b)
			do(string(q))
		}
		do(p[:i] + p[i+1:])
		do(p[:i+1] + p[i:])
	}
}

// TestDecodeOfOtherBytes: of an encoding as it is, and of the contents with a right check around them.
func TestDecodeOfOtherBytes(t *testing.T) {
	for _, x := range small() {
		changed(encoded(x), func(q string) { wantAsModel(t, q) })
		changed(contents(x), func(q string) { wantAsModel(t, sealed(q)) })
	}
}

func TestDecodeOfRandomLetters(t *testing.T) {
	r := rand.New(rand.NewSource(162))
	for range 20000 {
		x := randomLetter(r)
		wantDecoded(t, encoded(x), plain(x))
		wantAsModel(t, encoded(x))
	}
}

// TestDecodeOfAnything is P1, too.
func TestDecodeOfAnything(t *testing.T) {
	r := rand.New(rand.NewSource(163))
	count := map[api.Errno]int{}
	for range 200000 {
		p := []byte(contents(randomLetter(r)))
		if r.Intn(4) == 0 {
			p = p[:r.Intn(len(p)+1)]
		}
		for range r.Intn(4) {
			if len(p) > 0 {
				p[r.Intn(len(p))] ^= 1 << r.Intn(8)
			}
		}
		whole := sealed(string(p))
		if r.Intn(8) == 0 {
			q := []byte(whole)
			q[r.Intn(len(q))] ^= 1 << r.Intn(8)
			whole = string(q)
		}
		count[wantAsModel(t, whole)]++
	}
	for _, e := range []api.Errno{api.OK, api.ErrForm, api.ErrShort, api.ErrLong} {
		if count[e] < 1000 {
			t.Errorf("the error %d only %d times", e, count[e])
		}
	}
}

// TestDecodeOfRandomBytes is P1: most of these begin as a letter does.
func TestDecodeOfRandomBytes(t *testing.T) {
	r := rand.New(rand.NewSource(164))
	for range 100000 {
		p := make([]byte, r.Intn(40))
		for i := range p {
			p[i] = byte(r.Uint32()) >> r.Intn(8)
		}
		wantAsModel(t, string(p))
		wantAsModel(t, sealed(string(p)))
		wantAsModel(t, sealed("\x01"+string([]byte{kinds[r.Intn(len(kinds))]})+string(slices.Concat(p[len(p)/2:], p))))
	}
}

package manifest_test

import (
	"encoding/binary"
	"math"
	"math/rand"
	"slices"
	"strings"
	"testing"

	"anabranch/api"
	"anabranch/manifest"
	"anabranch/vector"
)

const (
	above = api.End + 1
	tall  = "\xff\xff\xff\xff\xff\xff\xff\xff\xff\x02" // a number of more than 64 bits
	over  = "\x80\x80\x80\x80\x80\x80\x80\x80\x80\x01" // the number End + 1
)

// The tests of P10.1.

func TestEncode(t *testing.T) {
	for _, c := range []struct {
		m    manifest.Manifest
		want string
	}{
		{manifest.Manifest{}, "\x00\x00\x00\x00\x00"},
		{manifest.Manifest{Serial: 1}, "\x00\x01\x00\x00\x00"},
		{some, "\x03\x04\x02\x01\x02\x05\x06fold-4"},
		{manifest.Manifest{Node: 63, Serial: 300, Floor: vector.Vector{0, 127, 0, 0}, Time: 128, Fold: "f"}, "\x3f\xac\x02\x02\x00\x7f\x80\x01\x01f"},
	} {
		if got := string(manifest.Encode(c.m)); got != c.want {
			t.Errorf("Encode(%v) = %q, want %q", c.m, got, c.want)
		}
	}
	for _, m := range samples() {
		if got := string(manifest.Encode(m)); got != encoded(m) {
			t.Errorf("Encode(%v) = %q, want %q", m, got, encoded(m))
		}
	}
}

func TestDecodeIsTheInverseOfEncode(t *testing.T) {
	for _, m := range samples() {
		got, e := manifest.Decode([]byte(encoded(m)))
		wantManifest(t, "Decode", got, e, m)
		got, e = manifest.Decode(manifest.Encode(m))
		wantManifest(t, "Decode behind Encode", got, e, m)
	}
}

// TestDecodeOfWhatIsNoManifest: Encode lays whatever it is given, but Decode refuses what is not in the limits.
func TestDecodeOfWhatIsNoManifest(t *testing.T) {
	refused := func(want api.Errno, change func(m *manifest.Manifest)) {
		t.Helper()
		for _, m := range []manifest.Manifest{{}, some} {
			change(&m)
			got, e := manifest.Decode(manifest.Encode(m))
			wantNone(t, "Decode behind Encode", got, e, want)
		}
	}
	for _, n := range badNodes {
		refused(api.ErrLong, func(m *manifest.Manifest) { m.Node = n })
	}
	for _, n := range []uint64{above, above + 1, math.MaxUint64} {
		refused(api.ErrLong, func(m *manifest.Manifest) { m.Serial = n })
		refused(api.ErrLong, func(m *manifest.Manifest) { m.Time = n })
		refused(api.ErrLong, func(m *manifest.Manifest) { m.Floor = vector.Vector{n} })
		refused(api.ErrLong, func(m *manifest.Manifest) { m.Floor = vector.Vector{0, n, 1} })
	}
	for _, n := range []int{65, 127, 128, 1000} {
		refused(api.ErrLong, func(m *manifest.Manifest) { m.Floor = slices.Repeat(vector.Vector{1}, n) })
	}
	for _, n := range []int{api.MaxFile + 1, 127, 128, 1 << 20} {
		refused(api.ErrLong, func(m *manifest.Manifest) { m.Fold = strings.Repeat("x", n) })
	}
	for _, s := range badFolds {
		refused(api.ErrForm, func(m *manifest.Manifest) { m.Fold = s })
	}
}

// wantRefused checks that Decode refuses p with this error, and returns nothing else.
func wantRefused(t *testing.T, p string, want api.Errno) {
	t.Helper()
	m, e := manifest.Decode([]byte(p))
	if e != want {
		t.Errorf("Decode(%q)", p)
	}
	wantNone(t, "Decode", m, e, want)
}

// TestDecodeOfWhatIsCutOff: no encoding is the beginning of another one.
func TestDecodeOfWhatIsCutOff(t *testing.T) {
	for _, m := range samples() {
		p := encoded(m)
		for i := range p {
			wantRefused(t, p[:i], api.ErrShort)
		}
	}
	for _, p := range [][]byte{nil, {}} {
		m, e := manifest.Decode(p)
		wantNone(t, "Decode of nothing", m, e, api.ErrShort)
	}
}

func TestDecodeWithBytesBehind(t *testing.T) {
	for _, m := range samples() {
		for _, tail := range []string{"\x00", "\x01", "a", "\x80", "\x80\x00", over, encoded(m)} {
			wantRefused(t, encoded(m)+tail, api.ErrForm)
		}
	}
}

// TestDecodeOfAFloorThatEndsWithZero: what Lay trims is refused.
func TestDecodeOfAFloorThatEndsWithZero(t *testing.T) {
	for n := range 64 {
		wantRefused(t, laid(3, 4, make([]uint64, n+1), 5, "fold-4"), api.ErrForm)
		wantRefused(t, laid(0, 1, append(slices.Repeat([]uint64{6}, n), 0), 0, ""), api.ErrForm)
	}
	wantRefused(t, laid(3, 4, []uint64{api.End, 0}, 5, ""), api.ErrForm)
}

// TestDecodeOfLongerNumbers: every number has one encoding.
func TestDecodeOfLongerNumbers(t *testing.T) {
	p := []byte(encoded(some))
	for i := range 7 { // its seven numbers are one byte each
		longer := slices.Insert(slices.Clone(p), i+1, 0)
		longer[i] |= 0x80
		wantRefused(t, string(longer), api.ErrForm)
		wantRefused(t, string(p[:i])+tall+string(p[i+1:]), api.ErrForm)
		wantRefused(t, string(p[:i])+over+string(p[i+1:]), api.ErrLong)
	}
}

// TestDecodeOfTwoErrors: a tape reads from the front, and gives up at its first error; of the errors in what it has read
// until then, and its own, the one with the lowest number is returned.
func TestDecodeOfTwoErrors(t *testing.T) {
	zero := laid(3, 4, []uint64{1, 0}, 5, "")[:5] // up to the floor
	bad := laid(3, 4, nil, 5, "x y")
	for _, c := range []struct {
		p    string
		want api.Errno
	}{
		{zero, api.ErrForm},
		{zero + "\x80", api.ErrForm},
		{zero + "\x80\x00", api.ErrForm},
		{zero + "\x05", api.ErrForm},
		{zero + over + "\x00", api.ErrForm},
		{zero + "\x05\x31" + strings.Repeat("x", 49), api.ErrForm},
		{zero + "\x05\x06fold-", api.ErrForm},
		{zero + "\x05\x03x y", api.ErrForm},
		{zero + "\x05\x00\x00", api.ErrForm},
		{bad + "\x00", api.ErrForm},
		{bad[:len(bad)-1], api.ErrShort},
		{laid(3, 4, nil, 5, strings.Repeat("X", 49)), api.ErrLong},
		{laid(3, 4, nil, 5, strings.Repeat("x", 49)) + "\x00", api.ErrLong},
		{laid(3, 4, nil, 5, strings.Repeat("x", 49))[:20], api.ErrLong},
		{laid(3, 4, nil, above, "x y"), api.ErrLong},
		{laid(3, 4, nil, above, "") + "\x00", api.ErrLong},
		{laid(64, 4, nil, 5, ""), api.ErrLong},
		{"\x40", api.ErrLong},
		{"\x40" + tall, api.ErrLong},
		{laid(64, 4, []uint64{1, 0}, 5, "x y"), api.ErrLong},
		{laid(3, above, []uint64{1, 0}, 5, "x y") + "\x00", api.ErrLong},
		{laid(3, above, nil, 5, "")[:11], api.ErrLong},
		{laid(3, 4, []uint64{above, 0}, 5, ""), api.ErrLong},
		{"\x03\x04\x41", api.ErrLong},
		{laid(3, 4, make([]uint64, 65), 5, ""), api.ErrLong},
		{"\x03\x04\x02\x00", api.ErrShort},
		{"\x80\x00\x40", api.ErrForm},
		{"\x03" + tall, api.ErrForm},
	} {
		wantRefused(t, c.p, c.want)
	}
}

// reader reads an encoding as P2.1 and P2.2 say, without the program's packages; e is its first error.
type reader struct {
	p string
	e api.Errno
}

func (r *reader) num(most uint64) uint64 {
	n, used := binary.Uvarint([]byte(r.p))
	switch {
	case r.e != api.OK:
		return 0
	case used == 0 && len(r.p) < binary.MaxVarintLen64:
		r.e = api.ErrShort
	case used <= 0 || used > 1 && r.p[used-1] == 0:
		r.e = api.ErrForm
	case n > most:
		r.e = api.ErrLong
	default:
		r.p = r.p[used:]
		return n
	}
	return 0
}

func (r *reader) text(most int) string {
	n := int(r.num(math.MaxInt))
	switch {
	case r.e != api.OK:
	case n > most:
		r.e = api.ErrLong
	case n > len(r.p):
		r.e = api.ErrShort
	default:
		s := r.p[:n]
		r.p = r.p[n:]
		return s
	}
	return ""
}

// named reports whether a manifest may have that fold.
func named(fold string) bool {
	return strings.Trim(fold, "abcdefghijklmnopqrstuvwxyz0123456789.-") == ""
}

// model returns what P10.1 says Decode returns; the manifest counts only without an error.
func model(p string) (m manifest.Manifest, e api.Errno) {
	r := &reader{p: p}
	m.Node, m.Serial = int(r.num(63)), r.num(api.End)
	m.Floor = make(vector.Vector, r.num(64))
	for w := range m.Floor {
		m.Floor[w] = r.num(api.End)
	}
	if r.e == api.OK && len(trimmed(m.Floor)) < len(m.Floor) {
		r.e = api.ErrForm
	}
	m.Time, m.Fold = r.num(api.End), r.text(api.MaxFile)
	if r.e == api.OK && (r.p != "" || !named(m.Fold)) {
		r.e = api.ErrForm
	}
	return m, r.e
}

// wantAsModel checks that Decode returns what the model returns, and accepts nothing but encodings.
func wantAsModel(t *testing.T, p string) api.Errno {
	t.Helper()
	m, want := model(p)
	got, e := manifest.Decode([]byte(p))
	if want != api.OK {
		wantNone(t, "Decode", got, e, want)
	} else {
		wantManifest(t, "Decode", got, e, m)
		if encoded(got) != p || string(manifest.Encode(got)) != p {
			t.Errorf("Encode(%v) = %q", got, manifest.Encode(got))
		}
	}
	if t.Failed() {
		t.Fatalf("Decode(%q)", p)
	}
	return e
}

// TestDecodeOfOtherBytes: one byte of an encoding is another one, or not there, or there twice.
func TestDecodeOfOtherBytes(t *testing.T) {
	for _, m := range []manifest.Manifest{
		{},
		{Serial: 1},
		some,
		{Node: 63, Serial: api.End, Floor: vector.Vector{0, 127, 128, 0, 1}, Time: 300, Fold: "fold-9223372036854775807"},
		{Node: 1, Serial: 128, Floor: slices.Repeat(vector.Vector{1}, 64), Time: 1, Fold: strings.Repeat("z", api.MaxFile)},
	} {
		p := []byte(encoded(m))
		for i := range p {
			for b := range 256 {
				other := slices.Clone(p)
				other[i] = byte(b)
				wantAsModel(t, string(other))
			}
			wantAsModel(t, string(slices.Delete(slices.Clone(p), i, i+1)))
			wantAsModel(t, string(slices.Insert(slices.Clone(p), i, p[i])))
		}
	}
}

func TestDecodeOfAnything(t *testing.T) {
	r := rand.New(rand.NewSource(101))
	count := map[api.Errno]int{}
	for range 100000 {
		p := []byte(encoded(randomManifest(r)))
		for range r.Intn(4) {
			p[r.Intn(len(p))] ^= 1 << r.Intn(8)
		}
		if r.Intn(4) == 0 {
			p = p[:r.Intn(len(p)+1)]
		}
		count[wantAsModel(t, string(p))]++
	}
	for _, e := range []api.Errno{api.OK, api.ErrForm, api.ErrShort, api.ErrLong} {
		if count[e] < 1000 {
			t.Errorf("the error %d only %d times", e, count[e])
		}
	}
}

// The tests of P1 and P2, and of the rule on memory.

// TestEncodeOfAnything is P1.
func TestEncodeOfAnything(t *testing.T) {
	for _, n := range badNodes {
		for _, v := range []vector.Vector{nil, {math.MaxUint64}, make(vector.Vector, 1<<20), slices.Repeat(vector.Vector{math.MaxUint64}, 1000)} {
			m := manifest.Manifest{Node: n, Serial: math.MaxUint64, Floor: v, Time: math.MaxUint64, Fold: strings.Repeat("\xff", 1000)}
			if got := string(manifest.Encode(m)); got != encoded(m) {
				t.Errorf("Encode = %.100q, want %.100q", got, encoded(m))
			}
		}
	}
}

func TestMemory(t *testing.T) {
	all := vector.Vector{1, 2, 0, 7, 7}
	m := some
	m.Floor = all[:3]
	p := manifest.Encode(m)
	_ = append(p, '+')
	if !slices.Equal(all, vector.Vector{1, 2, 0, 7, 7}) {
		t.Errorf("the floor became %v", all)
	}
	clear(all)
	if string(p) != encoded(some) {
		t.Errorf("the encoding became %q", p)
	}
	got, e := manifest.Decode(p)
	other, _ := manifest.Decode(p)
	if string(p) != encoded(some) {
		t.Errorf("the encoding became %q", p)
	}
	clear(p)
	clear(other.Floor)
	wantManifest(t, "Decode", got, e, some)
}

// TestAnswersDoNotDependOnOtherCalls is P2.
func TestAnswersDoNotDependOnOtherCalls(t *testing.T) {
	l := samples()
	for _, m := range slices.Backward(l) {
		for _, x := range []manifest.Manifest{m, l[0], some} {
			wantRefused(t, encoded(x)+"+", api.ErrForm)
			got, e := manifest.Decode([]byte(encoded(x)))
			wantManifest(t, "Decode", got, e, x)
			if got := string(manifest.Encode(x)); got != encoded(x) {
				t.Errorf("Encode(%v) = %q, want %q", x, got, encoded(x))
			}
		}
	}
}

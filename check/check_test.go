package check_test

import (
	"bytes"
	"encoding/binary"
	"hash/crc32"
	"math"
	"math/rand"
	"slices"
	"strings"
	"testing"

	"anabranch/api"
	"anabranch/check"
	"anabranch/digits"
)

var castagnoli = crc32.MakeTable(crc32.Castagnoli)

// record is what P3.1 says Wrap returns, made without package check.
func record(text string) []byte {
	p := digits.LayText(nil, []byte(text))
	return binary.BigEndian.AppendUint32(p, crc32.Checksum(p, castagnoli))
}

// sealed returns p, which may be no text at all, and its checksum.
func sealed(p string) string {
	return p + string(binary.BigEndian.AppendUint32(nil, crc32.Checksum([]byte(p), castagnoli)))
}

// lengths holds the lengths at which the length of a length changes, and the limit of a text.
var lengths = []int{0, 1, 2, 3, 126, 127, 128, 129, 16383, 16384, api.MaxText}

// The tests of P3.1.

func TestSum(t *testing.T) {
	for _, c := range []struct {
		p    string
		want uint32
	}{
		{"", 0},
		{"123456789", 0xe3069283},
		{"a", 0xc1d04330},
		{strings.Repeat("\x00", 32), 0x8a9136aa},
		{strings.Repeat("\xff", 32), 0x62a8ab43},
	} {
		if got := check.Sum([]byte(c.p)); got != c.want {
			t.Errorf("Sum(%q) = %08x, want %08x", c.p, got, c.want)
		}
	}
	if check.Sum(nil) != 0 {
		t.Errorf("Sum(nil) = %08x", check.Sum(nil))
	}
}

// TestSumOfAllPairs runs through both tables wholly, for the first byte and for a later one.
func TestSumOfAllPairs(t *testing.T) {
	for n := range 1 << 16 {
		p := []byte{byte(n >> 8), byte(n)}
		if got, want := check.Sum(p), crc32.Checksum(p, castagnoli); got != want {
			t.Fatalf("Sum(% x) = %08x, want %08x", p, got, want)
		}
	}
}

func TestSumOfManyBytes(t *testing.T) {
	r := rand.New(rand.NewSource(3))
	for n := range 600 {
		p := make([]byte, n)
		r.Read(p)
		if got, want := check.Sum(p), crc32.Checksum(p, castagnoli); got != want {
			t.Errorf("Sum of %d bytes = %08x, want %08x", n, got, want)
		}
	}
}

func TestWrapAndSize(t *testing.T) {
	if got, want := string(check.Wrap([]byte("abc"))), sealed("\x03abc"); got != want {
		t.Errorf("Wrap(abc) = %q, want %q", got, want)
	}
	if got, want := string(check.Wrap(nil)), sealed("\x00"); got != want {
		t.Errorf("Wrap(nil) = %q, want %q", got, want)
	}
	for _, n := range lengths {
		text := strings.Repeat("t", n)
		got := check.Wrap([]byte(text))
		if !bytes.Equal(got, record(text)) {
			t.Errorf("Wrap of %d bytes: %d bytes", n, len(got))
		}
		if check.Size(n) != len(got) {
			t.Errorf("Size(%d) = %d, want %d", n, check.Size(n), len(got))
		}
	}
}

func TestSize(t *testing.T) {
	for n, want := range map[int]int{
		math.MinInt: 5, -128: 5, -1: 5, 0: 5, 1: 6, 127: 132, 128: 134, 16383: 16389, 16384: 16391, 1<<31 - 1: 1<<31 + 8,
	} {
		if got := check.Size(n); got != want {
			t.Errorf("Size(%d) = %d, want %d", n, got, want)
		}
	}
}

// The tests of P3.2.

func TestOpenIsTheInverseOfWrap(t *testing.T) {
	for _, n := range lengths {
		text := bytes.Repeat([]byte("t"), n)
		for _, tail := range []string{"", "z", "\x00\x00\x00\x00\x00"} {
			for _, most := range []int{n, n + 1, math.MaxInt} {
				got, rest, e := check.Open(append(check.Wrap(text), tail...), most)
				if !bytes.Equal(got, text) || string(rest) != tail || e != api.OK {
					t.Errorf("Open of %d bytes, most %d: %d bytes, %q, %d", n, most, len(got), rest, e)
				}
			}
		}
	}
}

func TestOpenRefuses(t *testing.T) {
	hi := sealed("\x02hi")
	wrong := "\x02hi\x00\x00\x00\x00"
	for _, c := range []struct {
		p    string
		most int
		want api.Errno
	}{
		{"", 9, api.ErrShort},
		{"", -1, api.ErrShort},
		{"\x80", 9, api.ErrShort},
		{"\x02h", 9, api.ErrShort},
		{"\x02hi", 9, api.ErrShort},
		{hi[:6], 2, api.ErrShort},
		{wrong[:6], 2, api.ErrShort},
		{hi, 1, api.ErrLong},
		{hi, 0, api.ErrLong},
		{hi, -1, api.ErrLong},
		{hi, math.MinInt, api.ErrLong},
		{wrong, 1, api.ErrLong},
		{"\x02", 1, api.ErrLong},
		{sealed("\x00"), -1, api.ErrLong},
		{wrong, 2, api.ErrForm},
		{wrong + "more", 2, api.ErrForm},
		{"\x00\x00\x00\x00\x00", 9, api.ErrForm},
		{sealed("\x82\x00hi"), 9, api.ErrForm},
		{sealed("\x82\x00hi"), -1, api.ErrForm},
		{"\xff\xff\xff\xff\xff\xff\xff\xff\xff\x02", 9, api.ErrForm},
		{"\xff\xff\xff\xff\xff\xff\xff\xff\xff\x01", math.MaxInt, api.ErrLong},
		{"\xff\xff\xff\xff\xff\xff\xff\xff\x7f", math.MaxInt, api.ErrShort},
		{"\x02hi" + string(little(hi[3:])), 9, api.ErrForm},
		{"\x02hi" + string(binary.BigEndian.AppendUint32(nil, crc32.ChecksumIEEE([]byte("\x02hi")))), 9, api.ErrForm},
		{"\x02hi" + string(binary.BigEndian.AppendUint32(nil, crc32.Checksum([]byte("hi"), castagnoli))), 9, api.ErrForm},
	} {
		text, rest, e := check.Open([]byte(c.p), c.most)
		if len(text) != 0 || string(rest) != c.p || e != c.want {
			t.Errorf("Open(%q, %d) = %q, %q, %d, want the error %d", c.p, c.most, text, rest, e, c.want)
		}
	}
}

// little returns p with the lowest byte first.
func little(p string) []byte {
	l := []byte(p)
	slices.Reverse(l)
	return l
}

func TestOpenOfEveryBeginning(t *testing.T) {
	for _, n := range []int{0, 1, 5, 127, 128, 300} {
		p := check.Wrap(bytes.Repeat([]byte("t"), n))
		for i := range p {
			text, rest, e := check.Open(p[:i], n)
			if len(text) != 0 || !bytes.Equal(rest, p[:i]) || e != api.ErrShort {
				t.Errorf("%d bytes of %d: %q, %q, %d", i, len(p), text, rest, e)
			}
		}
	}
}

// TestOpenNoticesDamage: no record with up to three damaged bits is accepted.
func TestOpenNoticesDamage(t *testing.T) {
	whole := check.Wrap([]byte("some"))
	bits := 8 * len(whole)
	for a := range bits {
		for b := range a + 1 {
			for c := range b + 1 {
				p := slices.Clone(whole)
				for _, i := range []int{a, b, c} {
					p[i/8] ^= 1 << (i % 8)
				}
				text, rest, e := check.Open(p, 4)
				intact := bytes.Equal(p, whole)
				if (e == api.OK) != intact || !intact && (len(text) != 0 || !bytes.Equal(rest, p)) {
					t.Fatalf("Open(% x) = %q, % x, %d", p, text, rest, e)
				}
			}
		}
	}
	for i := range bits {
		p := slices.Clone(whole)
		p[i/8] ^= 1 << (i % 8)
		if _, _, e := check.Open(p, 4); i >= 8 && e != api.ErrForm {
			t.Errorf("bit %d: %d", i, e)
		}
	}
}

func TestAll(t *testing.T) {
	three := sealed("\x01a") + sealed("\x00") + sealed("\x03abc")
	wrong := "\x02hi\x00\x00\x00\x00"
	for _, c := range []struct {
		p     string
		most  int
		texts []string
		n     int
		want  api.Errno
	}{
		{"", 9, nil, 0, api.OK},
		{"", -1, nil, 0, api.OK},
		{three, 9, []string{"a", "", "abc"}, 19, api.OK},
		{three, 3, []string{"a", "", "abc"}, 19, api.OK},
		{three, 2, []string{"a", ""}, 11, api.ErrLong},
		{three, 0, nil, 0, api.ErrLong},
		{three, -1, nil, 0, api.ErrLong},
		{three[:18], 9, []string{"a", ""}, 11, api.ErrShort},
		{three + "\x09", 9, []string{"a", "", "abc"}, 19, api.ErrShort},
		{three + wrong + three, 9, []string{"a", "", "abc"}, 19, api.ErrForm},
		{wrong + three, 9, nil, 0, api.ErrForm},
		{sealed("\x81\x00a") + three, 9, nil, 0, api.ErrForm},
		{"\x80", 9, nil, 0, api.ErrShort},
	} {
		texts, n, e := check.All([]byte(c.p), c.most)
		if n != c.n || e != c.want || len(texts) != len(c.texts) {
			t.Errorf("All(%q, %d) = %q, %d, %d, want %q, %d, %d", c.p, c.most, texts, n, e, c.texts, c.n, c.want)
			continue
		}
		for i, text := range texts {
			if string(text) != c.texts[i] {
				t.Errorf("All(%q, %d): %q, want %q", c.p, c.most, text, c.texts[i])
			}
		}
	}
	if texts, n, e := check.All(nil, 9); len(texts) != 0 || n != 0 || e != api.OK {
		t.Errorf("All(nil) = %q, %d, %d", texts, n, e)
	}
}

// TestAllIsOpenAgainAndAgain is P1 and P3.2, for records of which some are damaged, cut off or no records at all.
func TestAllIsOpenAgainAndAgain(t *testing.T) {
	r := rand.New(rand.NewSource(32))
	for range 3000 {
		p := randomRecords(r)
		most := r.Intn(8) - 1
		texts, n, e := check.All(p, most)
		rest, count := p, 0
		for len(rest) > 0 {
			text, after, fault := check.Open(rest, most)
			if fault != api.OK {
				if fault != e {
					t.Fatalf("All(% x, %d): %d, want %d", p, most, e, fault)
				}
				break
			}
			if count >= len(texts) || !bytes.Equal(texts[count], text) {
				t.Fatalf("All(% x, %d) = %q", p, most, texts)
			}
			rest = after
			count++
		}
		if count != len(texts) || n != len(p)-len(rest) || (e == api.OK) != (len(rest) == 0) {
			t.Fatalf("All(% x, %d) = %q, %d, %d", p, most, texts, n, e)
		}
	}
}

func randomRecords(r *rand.Rand) []byte {
	var p []byte
	for range r.Intn(5) {
		text := make([]byte, r.Intn(7))
		r.Read(text)
		p = append(p, check.Wrap(text)...)
	}
	if len(p) > 0 && r.Intn(2) == 0 {
		p[r.Intn(len(p))] ^= 1 << r.Intn(8)
	}
	if r.Intn(2) == 0 {
		p = p[:len(p)-r.Intn(len(p)+1)]
	}
	return p
}

// TestMemory is the rule on memory: arguments stay as they are, and a caller may append to what was returned.
func TestMemory(t *testing.T) {
	good := sealed("\x02hi") + sealed("\x02ho")
	for _, all := range []string{good, "\x02hi\x00\x00\x00\x00" + good} {
		whole := []byte(all)
		for n := range len(whole) + 1 {
			for _, most := range []int{1, 2} {
				text, rest, _ := check.Open(whole[:n], most)
				_ = append(text, 'T')
				_ = append(rest, 'R')
				texts, _, _ := check.All(whole[:n], most)
				for _, text := range texts {
					_ = append(text, 'T')
				}
				_ = append(check.Wrap(whole[:n]), 'W')
				if string(whole) != all {
					t.Fatalf("%d bytes, most %d: %q, and before %q", n, most, whole, all)
				}
			}
		}
	}
}

// TestAnswersDoNotDependOnEarlierCalls is P2.
func TestAnswersDoNotDependOnEarlierCalls(t *testing.T) {
	good, bad := check.Wrap([]byte("hi")), []byte("\x02hi\x00\x00\x00\x00")
	for range 3 {
		if check.Sum([]byte("123456789")) != 0xe3069283 || !bytes.Equal(check.Wrap([]byte("hi")), good) {
			t.Error("Sum or Wrap")
		}
		if text, rest, e := check.Open(good, 2); string(text) != "hi" || len(rest) != 0 || e != api.OK {
			t.Errorf("%q, %q, %d", text, rest, e)
		}
		if _, _, e := check.Open(bad, 2); e != api.ErrForm {
			t.Errorf("%d", e)
		}
		if texts, n, e := check.All(append(good, bad...), 2); len(texts) != 1 || n != len(good) || e != api.ErrForm {
			t.Errorf("%q, %d, %d", texts, n, e)
		}
	}
}

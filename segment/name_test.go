package segment_test

import (
	"math"
	"math/rand"
	"slices"
	"strings"
	"testing"

	"anabranch/api"
	"anabranch/disk"
	"anabranch/segment"
)

// The tests of P8.1 that are about names.

var (
	someWriters = []int{0, 1, 3, 9, 10, 62, 63, 64, 99, 100, 12345, math.MaxInt32, math.MaxInt32 + 1, math.MaxInt - 1, math.MaxInt}
	someNumbers = []uint64{0, 1, 9, 10, 15, 16, 255, 256, 0xdeadbeef, 1 << 32, api.End, api.End + 1, math.MaxUint64 - 1, math.MaxUint64}
)

func TestKind(t *testing.T) {
	if segment.Kind != 115 {
		t.Errorf("Kind = %d", segment.Kind)
	}
}

func TestName(t *testing.T) {
	for _, c := range []struct {
		writer int
		first  uint64
		want   string
	}{
		{3, 255, "feed-3-00000000000000ff"},
		{0, 0, "feed-0-0000000000000000"},
		{63, 1, "feed-63-0000000000000001"},
		{10, 0x1234567890abcdef, "feed-10-1234567890abcdef"},
		{math.MaxInt, math.MaxUint64, "feed-9223372036854775807-ffffffffffffffff"},
		{-1, 1, "feed--1-0000000000000001"},
		{math.MinInt, api.End, "feed--9223372036854775808-7fffffffffffffff"},
	} {
		if got := segment.Name(c.writer, c.first); got != c.want {
			t.Errorf("Name(%d, %d) = %q, want %q", c.writer, c.first, got, c.want)
		}
		if got, want := segment.Begin(c.writer), c.want[:len(c.want)-16]; got != want {
			t.Errorf("Begin(%d) = %q, want %q", c.writer, got, want)
		}
	}
	for _, writer := range append(someWriters, -1, -63, math.MinInt) {
		for _, first := range someNumbers {
			got := segment.Name(writer, first)
			if got != nameOf(writer, first) || got != segment.Begin(writer)+got[len(got)-16:] || !disk.Named(got) {
				t.Errorf("Name(%d, %d) = %q", writer, first, got)
			}
		}
	}
}

// TestOrderOfNames: the names of a writer are ordered as the numbers are, and no other writer's names begin as its own.
func TestOrderOfNames(t *testing.T) {
	for _, writer := range someWriters {
		var names []string
		for _, first := range someNumbers {
			names = append(names, segment.Name(writer, first))
		}
		if !slices.IsSorted(names) {
			t.Errorf("%q", names)
		}
		for _, other := range someWriters {
			if begins := strings.HasPrefix(names[0], segment.Begin(other)); begins != (writer == other) {
				t.Errorf("%q begins with %q: %v", names[0], segment.Begin(other), begins)
			}
		}
	}
}

func wantSplit(t *testing.T, name string, writer int, first uint64, ok bool) {
	t.Helper()
	if w, n, is := segment.Split(name); w != writer || n != first || is != ok {
		t.Errorf("Split(%q) = %d, %d, %v, want %d, %d, %v", name, w, n, is, writer, first, ok)
	}
}

func TestSplit(t *testing.T) {
	wantSplit(t, "feed-3-00000000000000ff", 3, 255, true)
	for _, writer := range someWriters {
		for _, first := range someNumbers {
			wantSplit(t, nameOf(writer, first), writer, first, true)
		}
	}
	r := rand.New(rand.NewSource(81))
	for range 10000 {
		writer, first := r.Int()>>r.Intn(64), r.Uint64()>>r.Intn(64)
		wantSplit(t, nameOf(writer, first), writer, first, true)
	}
}

func TestSplitOfNoName(t *testing.T) {
	for _, name := range []string{
		"", "-", "--", "feed", "feed-", "feed-3", "feed-3-", "feed--", "feed-3-5", "manifest", "fold-1",
		"feed--00000000000000ff", "feed-00000000000000ff", "3-00000000000000ff", "-3-00000000000000ff", "00000000000000ff",
		"Feed-3-00000000000000ff", "FEED-3-00000000000000ff", "food-3-00000000000000ff", "feeds-3-00000000000000ff",
		"feed3-00000000000000ff", "feed_3-00000000000000ff", "feed-3_00000000000000ff", "feed.3.00000000000000ff",
		"feed-feed-3-00000000000000ff", "xfeed-3-00000000000000ff", " feed-3-00000000000000ff",
		"feed-3-0000000000000ff", "feed-3-000000000000000ff", "feed-3-f", "feed-3-ff", "feed-3-10000000000000000",
		"feed-3-00000000000000FF", "feed-3-00000000000000fF", "feed-3-ABCDEF0000000000",
		"feed-3-00000000000000fg", "feed-3-000000000000000g", "feed-3-00000000000000_f", "feed-3-0x000000000000ff", "feed-3-0_00000000000ff",
		"feed-3-+0000000000000ff", "feed-3--0000000000000ff", "feed-3-+00000000000000ff", "feed-3-0000000000 000ff",
		"feed-3-00000000000000ff ", "feed-3-00000000000000ff-", "feed-3-00000000000000ff.new", "feed-3-00000000000000ff\n",
		"feed-3--00000000000000ff", "feed-3-1-00000000000000ff", "feed-3-00000000000000ff-00000000000000ff",
		"feed-03-00000000000000ff", "feed-00-00000000000000ff", "feed-0003-00000000000000ff",
		"feed-+3-00000000000000ff", "feed--3-00000000000000ff", "feed--0-00000000000000ff", "feed-+0-00000000000000ff",
		"feed- 3-00000000000000ff", "feed-3 -00000000000000ff", "feed-3.0-00000000000000ff", "feed-1_0-00000000000000ff",
		"feed-a-00000000000000ff", "feed-0x3-00000000000000ff", "feed-3a-00000000000000ff",
		"feed-\u0663-00000000000000ff", "feed-3-000000000000000\u0665", "feed-3-00000000000000\xff\xff",
		"feed-9223372036854775808-00000000000000ff", "feed-18446744073709551615-00000000000000ff", "feed-18446744073709551619-00000000000000ff",
		"feed--9223372036854775808-00000000000000ff", "feed-99999999999999999999999999999-00000000000000ff",
		"feed-" + strings.Repeat("3", 100000) + "-00000000000000ff", "feed-3-" + strings.Repeat("0", 100000),
	} {
		wantSplit(t, name, 0, 0, false)
	}
	for _, writer := range []int{-1, -3, -63, math.MinInt} {
		for _, first := range someNumbers {
			wantSplit(t, nameOf(writer, first), 0, 0, false)
		}
	}
}

// TestSplitOfAlmostNames: whatever one change makes of a name, Split returns only what Name returns it for.
func TestSplitOfAlmostNames(t *testing.T) {
	r := rand.New(rand.NewSource(82))
	some := "0123456789abcdefgABCDEF-+_. x\x00\xff"
	yes := 0
	for range 30000 {
		name := nameOf(r.Intn(70), r.Uint64()>>r.Intn(64))
		i, c := r.Intn(len(name)), string(some[r.Intn(len(some))])
		changed := []string{name[:i] + c + name[i+1:], name[:i] + c + name[i:], name[:i] + name[i+1:], name + c}[r.Intn(4)]
		writer, first, ok := segment.Split(changed)
		switch {
		case ok && (writer < 0 || nameOf(writer, first) != changed):
			t.Fatalf("Split(%q) = %d, %d", changed, writer, first)
		case ok:
			yes++
		case changed == name || writer != 0 || first != 0:
			t.Fatalf("Split(%q) = %d, %d, false", changed, writer, first)
		}
	}
	if yes < 1000 {
		t.Errorf("only %d names", yes)
	}
}

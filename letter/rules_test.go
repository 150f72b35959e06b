package letter_test

import (
	"slices"
	"testing"

	"anabranch/api"
	"anabranch/letter"
	"anabranch/vector"
)

// The tests of P2, and of the rule on memory. (Those of P1 are with Encode and Decode.)

// TestTheSameAgain is P2.
func TestTheSameAgain(t *testing.T) {
	l := small()
	for _, x := range slices.Backward(l) {
		for _, y := range []letter.Letter{x, l[0], full(letter.Batch)} {
			wantRefused(t, encoded(y)+"+", api.ErrForm)
			wantDecoded(t, encoded(y), plain(y))
			wantEncoded(t, y)
		}
	}
}

// roomy returns a copy of a slice, behind which there are further elements in the same memory.
func roomy[T any](l []T, behind ...T) []T {
	return append(slices.Clone(l), behind...)[:len(l)]
}

// beyond returns what is in the memory behind a slice that roomy returned, up to n elements.
func beyond[T any](l []T, n int) []T { return l[:len(l)+n][len(l):] }

// spread returns a copy of x with something behind each of its slices.
func spread(x letter.Letter) letter.Letter {
	x.Have = roomy(x.Have, 99)
	x.Rows = roomy(x.Rows, api.Row{Node: 99})
	for i := range x.Rows {
		x.Rows[i].Have = roomy(x.Rows[i].Have, 99)
	}
	x.Events = roomy(x.Events, api.Event{Writer: 99})
	for i := range x.Events {
		x.Events[i].Text = roomy(x.Events[i].Text, 99)
	}
	x.Bytes = roomy(x.Bytes, 99)
	return x
}

// wantSpread checks that spread(before), which x was, has not changed.
func wantSpread(t *testing.T, x, before letter.Letter) {
	t.Helper()
	same := identical(x, before) && beyond(x.Have, 1)[0] == 99 && beyond(x.Rows, 1)[0].Node == 99 && beyond(x.Events, 1)[0].Writer == 99 && beyond(x.Bytes, 1)[0] == 99
	for _, r := range x.Rows {
		same = same && beyond(r.Have, 1)[0] == 99
	}
	for _, e := range x.Events {
		same = same && beyond(e.Text, 1)[0] == 99
	}
	if !same {
		t.Errorf("%s, or what is behind its fields, has changed: it was %s", brief(x), brief(before))
	}
}

// spoil overwrites everything that the slices of x hold, and appends to them.
func spoil(x letter.Letter) {
	_, _, _, _ = append(x.Have, 77), append(x.Rows, api.Row{Node: 77}), append(x.Events, api.Event{Writer: 77}), append(x.Bytes, 77)
	for i, r := range x.Rows {
		_ = append(r.Have, 77)
		clear(r.Have)
		x.Rows[i] = api.Row{Node: 77}
	}
	for i, e := range x.Events {
		_ = append(e.Text, 77)
		clear(e.Text)
		x.Events[i] = api.Event{Writer: 77}
	}
	clear(x.Have)
	clear(x.Bytes)
}

// withZeros returns a letter whose vectors end with zeros, with events of all kinds.
func withZeros(kind byte) letter.Letter {
	x := full(kind)
	x.Have = vector.Vector{4, 0, 5, 0, 0}
	x.Rows = []api.Row{{Node: 1, Have: []uint64{2, 0}, Time: 3}, {Node: 4, Have: []uint64{0}, Time: 5}}
	x.Events = events()
	return x
}

// TestEncodeKeepsItsArgument: it is as it was, with what is behind it, and the encoding does not depend on it any more.
func TestEncodeKeepsItsArgument(t *testing.T) {
	for _, k := range kinds {
		for _, before := range []letter.Letter{full(k), withZeros(k)} {
			x := spread(before)
			p := letter.Encode(x)
			_ = append(p, "++++"...)
			wantSpread(t, x, before)
			q := letter.Encode(x)
			spoil(x)
			clear(q)
			if string(p) != encoded(before) {
				t.Errorf("the encoding of %s became %q", brief(before), p)
			}
		}
	}
}

// TestDecodeKeepsItsArgument: it is as it was, with what is behind it, and the letter does not depend on it any more.
func TestDecodeKeepsItsArgument(t *testing.T) {
	for _, k := range kinds {
		for _, x := range []letter.Letter{full(k), withZeros(k)} {
			whole := encoded(x)
			p := roomy([]byte(whole), []byte("behind")...)
			got, e := letter.Decode(p)
			other, _ := letter.Decode(p)
			spoil(other)
			if string(p) != whole || string(beyond(p, 6)) != "behind" {
				t.Errorf("the encoding became %q", p[:len(p)+6])
			}
			clear(p[:len(p)+6])
			if e != api.OK || !identical(got, plain(x)) {
				t.Errorf("the letter became %s, %d, want %s", brief(got), e, brief(plain(x)))
			}
		}
	}
}

// TestListsOfALetterAreApart: what a caller appends to one of them, or to that of a copy, is in no other one.
func TestListsOfALetterAreApart(t *testing.T) {
	for _, k := range kinds {
		x := full(k)
		x.Events = append(x.Events, events()...) // some number that is none of those at which append takes new memory
		x.Rows = append(x.Rows, x.Rows[0])
		got, _ := letter.Decode([]byte(encoded(x)))
		_, _ = append(got.Have, 77), append(got.Bytes, 77)
		for _, r := range got.Rows {
			_ = append(r.Have, 77, 77, 77, 77)
		}
		for _, e := range got.Events {
			_ = append(e.Text, "TTTT"...)
		}
		copied := got
		a, b := append(got.Events, api.Event{Writer: 1}), append(copied.Events, api.Event{Writer: 2})
		c, d := append(got.Rows, api.Row{Node: 1}), append(copied.Rows, api.Row{Node: 2})
		if a[len(a)-1].Writer == b[len(b)-1].Writer || c[len(c)-1].Node == d[len(d)-1].Node {
			t.Errorf("kind %d: what is appended to the lists of a copy is in the letter's", k)
		}
		if !identical(got, plain(x)) {
			t.Errorf("kind %d: the letter became %s, want %s", k, brief(got), brief(plain(x)))
		}
	}
}

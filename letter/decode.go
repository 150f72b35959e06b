package letter

import (
	"slices"

	"anabranch/api"
	"anabranch/check"
	"anabranch/digits"
	"anabranch/event"
	"anabranch/vector"
)

// Decode returns the letter whose encoding is p. The errors of check.Open;
// ErrForm, also if a vector ends with 0, or event.Decode refuses an event;
// ErrShort; ErrLong: a number or a text is beyond its limit.
func Decode(p []byte) (x Letter, e api.Errno) {
	defer digits.Caught(&e)
	contents, rest, e := check.Open(p, Most)
	switch {
	case e != api.OK:
		return Letter{}, e
	case len(rest) > 0:
		return Letter{}, api.ErrForm
	}
	t := digits.NewTape(contents)
	read, ok := take(t) // not x itself: it must be zero if the tape gives up
	if !ok {
		return Letter{}, api.ErrForm
	}
	t.Done()
	return read, api.OK
}

// The following functions read parts of a letter. The tape gives up at what it
// cannot read; a false says that no Encode writes what was read, and is
// returned at once, as no error that the tape may meet later has a lower number
// than ErrForm.

// take reads a letter.
func take(t *digits.Tape) (Letter, bool) {
	if t.Byte() != begin {
		return Letter{}, false
	}
	x := Letter{Kind: t.Byte()}
	if x.Kind < Hello || x.Kind > Abort {
		return Letter{}, false
	}
	x.From, x.To = takeNode(t), takeNode(t)
	x.Mine, x.Serial = t.Num(1) == 1, t.Num(api.End)
	ok := takeFields(t, &x)
	return x, ok
}

// takeFields reads the fields that belong to the kind of a letter.
func takeFields(t *digits.Tape, x *Letter) bool {
	ok := true
	switch x.Kind {
	case Hello, Summary, Ack:
		if x.Have, ok = takeVector(t); ok {
			x.Rows, ok = takeRows(t)
		}
	case Batch:
		if x.Have, ok = takeVector(t); ok {
			x.Events, ok = takeEvents(t)
		}
	case Offer:
		if x.Have, ok = takeVector(t); ok {
			x.Time, x.Size, x.Sum = t.Num(api.End), t.Num(mostSize), uint32(t.Num(mostSum))
		}
	case Chunk:
		x.Size, x.At, x.Bytes = t.Num(mostSize), t.Num(mostSize), t.Text(Most)
	case Abort:
		x.Why = api.Errno(t.Num(mostWhy))
	}
	return ok
}

// takeRows reads rows.
func takeRows(t *digits.Tape) ([]api.Row, bool) {
	rows := make([]api.Row, t.Num(api.MaxNodes))
	for i := range rows {
		node := takeNode(t)
		have, ok := takeVector(t)
		if !ok {
			return nil, false
		}
		rows[i] = api.Row{Node: node, Have: have, Time: t.Num(api.End)}
	}
	return rows, true
}

// takeEvents reads events.
func takeEvents(t *digits.Tape) ([]api.Event, bool) {
	var events []api.Event // there may be fewer than their number says
	for range t.Num(api.End) {
		e, wrong := event.Decode(t.Text(Most))
		if wrong != api.OK {
			return nil, false
		}
		events = append(events, e)
	}
	return slices.Clip(events), true // copies of the letter share them, and a caller may append to each
}

// takeVector reads a vector, whose last number is not 0.
func takeVector(t *digits.Tape) (vector.Vector, bool) {
	v := vector.Read(t)
	return v, len(v) == 0 || v[len(v)-1] != 0
}

// takeNode reads the number of a node.
func takeNode(t *digits.Tape) int {
	return int(t.Num(api.MaxNodes - 1))
}

package letter

import (
	"slices"

	"anabranch/api"
	"anabranch/check"
	"anabranch/digits"
	"anabranch/event"
	"anabranch/vector"
)

// Encode returns a letter as bytes.
func Encode(x Letter) []byte {
	mine := uint64(0)
	if x.Mine {
		mine = 1
	}
	numbers := lay(uint64(x.From), uint64(x.To), mine, x.Serial)
	return check.Wrap(slices.Concat([]byte{begin, x.Kind}, numbers, layFields(x)))
}

// layFields returns the fields that belong to the kind of a letter, as bytes.
func layFields(x Letter) []byte {
	switch x.Kind {
	case Hello, Summary, Ack:
		return append(x.Have.Bytes(), layRows(x.Rows)...)
	case Batch:
		return append(x.Have.Bytes(), layEvents(x.Events)...)
	case Offer:
		return append(x.Have.Bytes(), lay(x.Time, x.Size, uint64(x.Sum))...)
	case Chunk:
		return append(lay(x.Size, x.At), digits.LayText(nil, x.Bytes)...)
	case Abort:
		return lay(uint64(x.Why))
	}
	return nil
}

// layRows returns how many rows there are, and the rows.
func layRows(rows []api.Row) []byte {
	p := lay(uint64(len(rows)))
	for _, r := range rows {
		p = append(p, lay(uint64(r.Node))...)
		p = append(p, vector.Vector(r.Have).Bytes()...)
		p = append(p, lay(r.Time)...)
	}
	return p
}

// layEvents returns how many events there are, and the events.
func layEvents(events []api.Event) []byte {
	p := lay(uint64(len(events)))
	for _, e := range events {
		p = append(p, digits.LayText(nil, event.Encode(e))...) // p is memory of its own, and digits would copy all of it for each event
	}
	return p
}

// lay returns numbers as bytes.
func lay(numbers ...uint64) []byte {
	var p []byte
	for _, n := range numbers {
		p = digits.Lay(p, n)
	}
	return p
}

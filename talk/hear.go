package talk

import (
	"anabranch/api"
	"anabranch/check"
	"anabranch/letter"
	"anabranch/matrix"
	"anabranch/store"
)

// source is what the chunks of a fold have in common.
type source struct {
	from   int
	serial uint64
	mine   bool
	size   uint64
}

// coming is a fold that was offered, and what has been received of it.
type coming struct {
	source
	time  uint64
	sum   uint32
	bytes []byte
}

// Hear processes a letter and returns the letters to send. ErrArg: it is not
// from another node to this one, or of no kind that the sender may send; ErrOld:
// it belongs to another exchange than the present one, or is a chunk that is not
// expected, or nothing in it is new. ErrForm, that a fold is not the one that
// was offered, and the errors of the store are also told to the sender, with an
// Abort. That all events of a batch are there already is ErrOld, too, but they
// are confirmed.
func (t *Talks) Hear(s *store.Store, m *matrix.Matrix, x letter.Letter) ([]letter.Letter, api.Errno) {
	switch {
	case t == nil, s == nil:
		return nil, api.ErrNone
	case x.To != s.Node(), x.From == s.Node(), !isNode(x.From):
		return nil, api.ErrArg
	case t.late(x):
		return nil, api.ErrOld
	}
	l, e := t.answer(s, m, x)
	if x.Mine && e == api.OK { // a letter that was refused must not shut out others
		t.heard[x.From] = x.Serial
	}
	for i := range l {
		l[i].From, l[i].To, l[i].Mine, l[i].Serial = s.Node(), x.From, !x.Mine, x.Serial
	}
	return l, e
}

// late reports whether a letter is of an exchange that is over: its sender has
// begun another one, or this replica has, or has begun none with it.
func (t *Talks) late(x letter.Letter) bool {
	if x.Mine {
		return x.Serial < t.heard[x.From]
	}
	begun := t.begun[x.From]
	return begun == 0 || x.Serial != begun
}

// answer does what a letter's kind asks for, and returns what is to be sent,
// still without sender and exchange.
func (t *Talks) answer(s *store.Store, m *matrix.Matrix, x letter.Letter) ([]letter.Letter, api.Errno) {
	switch {
	case x.Kind == letter.Hello && x.Mine:
		learn(m, x.Rows)
		summary := report(letter.Summary, s, m)
		return append([]letter.Letter{summary}, t.lack(s, x.Have)...), api.OK
	case x.Kind == letter.Summary && !x.Mine:
		learn(m, x.Rows)
		return t.lack(s, x.Have), api.OK
	case x.Kind == letter.Ack:
		learn(m, x.Rows)
		return nil, api.OK
	case x.Kind == letter.Batch:
		return take(s, m, x)
	case x.Kind == letter.Offer:
		return nil, t.expect(s, x)
	case x.Kind == letter.Chunk:
		return t.receive(s, m, x)
	case x.Kind == letter.Abort:
		t.coming = nil
		return nil, api.OK
	}
	return nil, api.ErrArg
}

// learn lets a matrix know what another replica knows.
func learn(m *matrix.Matrix, rows []api.Row) {
	for _, r := range rows {
		m.Raise(r)
	}
}

// take puts the events of a batch into the store. ErrOld, though they are
// confirmed: none of them is new; the errors of the store.
func take(s *store.Store, m *matrix.Matrix, x letter.Letter) ([]letter.Letter, api.Errno) {
	n, e := s.Put(x.Have, x.Events)
	l, e := confirm(s, m, e)
	if e == api.OK && n == 0 && len(x.Events) > 0 {
		e = api.ErrOld
	}
	return l, e
}

// expect expects the chunks of an offer, instead of those of an earlier one.
// ErrOld: nothing in it is new.
func (t *Talks) expect(s *store.Store, x letter.Letter) api.Errno {
	if x.Have.Within(s.Have()) {
		return api.ErrOld
	}
	t.coming = &coming{source: sourceOf(x), time: x.Time, sum: x.Sum}
	return api.OK
}

// receive takes the next bytes of the fold that is expected, and installs it
// once it is complete. ErrOld: these are not the next bytes; ErrForm: the fold
// is not the one that was offered; the errors of the store.
func (t *Talks) receive(s *store.Store, m *matrix.Matrix, x letter.Letter) ([]letter.Letter, api.Errno) {
	c := t.coming
	if !c.continues(x) {
		return nil, api.ErrOld
	}
	c.bytes = append(c.bytes, x.Bytes...)
	if uint64(len(c.bytes)) < c.size {
		return nil, api.OK
	}
	t.coming = nil
	if check.Sum(c.bytes) != c.sum {
		return confirm(s, m, api.ErrForm)
	}
	return confirm(s, m, s.Install(c.bytes, c.time))
}

// continues reports whether a chunk holds the next bytes of c.
func (c *coming) continues(x letter.Letter) bool {
	if c == nil || c.source != sourceOf(x) {
		return false
	}
	received := uint64(len(c.bytes))
	return x.At == received && uint64(len(x.Bytes)) <= c.size-received
}

// sourceOf returns what a letter of a fold has in common with the others.
func sourceOf(x letter.Letter) source {
	return source{from: x.From, serial: x.Serial, mine: x.Mine, size: x.Size}
}

// confirm returns the answer to what a replica was to take with an error: how
// far it has come, or why it has not. A replica whose disk has stopped says
// nothing.
func confirm(s *store.Store, m *matrix.Matrix, e api.Errno) ([]letter.Letter, api.Errno) {
	switch e {
	case api.OK:
		return []letter.Letter{report(letter.Ack, s, m)}, api.OK
	case api.ErrStop:
		return nil, e
	}
	return []letter.Letter{{Kind: letter.Abort, Why: e}}, e
}

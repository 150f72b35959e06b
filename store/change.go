package store

import (
	"cmp"

	"anabranch/api"
	"anabranch/event"
	"anabranch/feed"
	"anabranch/order"
	"anabranch/vector"
)

// Write makes an event of the store's node, of the kind of e and with the
// fields that it uses, and returns it. ErrMember: the node has not joined;
// ErrRetired: it has retired; the errors of event.Right; ErrOld: the node of a
// Join has joined; the errors of the disk.
func (s *Store) Write(e api.Event) (api.Event, api.Errno) {
	switch {
	case s == nil:
		return api.Event{}, api.ErrNone
	case !s.Joined(s.Node()):
		return api.Event{}, api.ErrMember
	case !s.Member(s.Node()):
		return api.Event{}, api.ErrRetired
	}
	own := s.feeds[s.Node()]
	e.Writer, e.Seq, e.Time = s.Node(), own.Next(), s.clock+1
	if wrong := event.Right(e); wrong != api.OK {
		return api.Event{}, wrong
	}
	if e.Kind == api.Join && s.Joined(e.Node) {
		return api.Event{}, api.ErrOld
	}
	if wrong := s.add(e); wrong != api.OK {
		return api.Event{}, wrong
	}
	if wrong := own.Sync(); wrong != api.OK {
		return api.Event{}, wrong
	}
	return event.Plain(e), api.OK
}

// Put takes the events of a list that the store does not have, and returns how
// many these are; base is what it must have before. ErrArg: the list is not in
// order; ErrGap: it does not have base. With an event's error, those before it
// are taken: the errors of event.Right; ErrMember: its writer has not joined;
// ErrRetired: it has retired; the errors of the feed.
func (s *Store) Put(base vector.Vector, l []api.Event) (int, api.Errno) {
	switch {
	case s == nil:
		return 0, api.ErrNone
	case !order.Right(l):
		return 0, api.ErrArg
	case !base.Within(s.Have()):
		return 0, api.ErrGap
	}
	var open *feed.Feed // the only one with events that may not be durable
	n := 0
	for _, e := range l {
		if s.has(e) {
			continue
		}
		if wrong := s.mayTake(e); wrong != api.OK {
			return n, cmp.Or(open.Sync(), wrong)
		}
		if f := s.feeds[e.Writer]; f != open {
			if wrong := open.Sync(); wrong != api.OK {
				return n, wrong
			}
			open = f
		}
		if wrong := s.add(e); wrong != api.OK {
			return n, cmp.Or(open.Sync(), wrong)
		}
		n++
	}
	return n, open.Sync()
}

// has reports whether the store has the event of that writer and number. 0 is
// the number of none.
func (s *Store) has(e api.Event) bool {
	return isNode(e.Writer) && e.Seq > 0 && e.Seq < s.feeds[e.Writer].Next()
}

// mayTake returns why an event cannot be one that a writer wrote.
func (s *Store) mayTake(e api.Event) api.Errno {
	switch wrong := event.Right(e); {
	case wrong != api.OK:
		return wrong
	case !s.Joined(e.Writer):
		return api.ErrMember
	case !s.Member(e.Writer):
		return api.ErrRetired
	}
	return api.OK
}

// add appends an event to the feed of its writer, not durably yet. The errors
// of the feed.
func (s *Store) add(e api.Event) api.Errno {
	wrong := s.feeds[e.Writer].Add(e)
	if wrong == api.OK {
		s.note(e)
	}
	return wrong
}

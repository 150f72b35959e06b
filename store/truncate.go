package store

import (
	"cmp"
	"slices"

	"anabranch/api"
	"anabranch/fold"
	"anabranch/manifest"
	"anabranch/order"
	"anabranch/sheet"
)

// Truncate folds all events up to time. ErrArg: time is above the clock, or
// below the time up to which events are folded; the errors of the disk.
func (s *Store) Truncate(time uint64) api.Errno {
	switch {
	case s == nil:
		return api.ErrNone
	case time > s.clock, time < s.Time():
		return api.ErrArg
	}
	lists := s.Lists()
	for w, n := range order.Upto(lists, time) {
		lists[w] = lists[w][:n]
	}
	f := s.Base()
	for _, e := range order.All(lists) {
		if wrong := f.Apply(e); wrong != api.OK {
			return wrong
		}
	}
	return s.become(f, time)
}

// Install replaces the fold by the one whose encoding is p, of which no event
// is after time; all events that it does not have must be after time. ErrForm:
// p is no fold; ErrOld: there is nothing new in it; ErrArg: an event is on the
// wrong side of time, time is before that of the store's fold, or there are
// events in that fold which are not in p; the errors of the disk.
func (s *Store) Install(p []byte, time uint64) api.Errno {
	if s == nil {
		return api.ErrNone
	}
	f, e := fold.Decode(p)
	switch {
	case e != api.OK:
		return api.ErrForm
	case f.Have().Within(s.Have()):
		return api.ErrOld
	case f.Last().Time > time, time < s.Time(), !s.manifest.Floor.Within(f.Have()), s.goesBack(f, time):
		return api.ErrArg
	}
	return s.become(f, time)
}

// goesBack reports whether an event that f does not have is not after time.
func (s *Store) goesBack(f *fold.Fold, time uint64) bool {
	have := f.Have()
	return slices.ContainsFunc(slices.Concat(s.Lists()...), func(e api.Event) bool {
		return e.Seq > have.Get(e.Writer) && e.Time <= time
	})
}

// become makes f the fold, and time the time up to which events are folded.
// ErrExhausted: the manifest cannot have that time, or a further serial; the
// errors of the disk. The Move of the manifest is what makes it happen: with an
// error before it nothing has changed, after it all.
func (s *Store) become(f *fold.Fold, time uint64) api.Errno {
	if s.manifest.Serial >= api.End || time > api.End {
		return api.ErrExhausted
	}
	m := manifest.Manifest{Node: s.Node(), Serial: s.manifest.Serial + 1, Floor: f.Have(), Time: time}
	m.Fold = nameOf(m.Serial)
	if e := sheet.Swap(s.disk, m.Fold, titleOf(m), pieces(f)...); e != api.OK {
		return e
	}
	if e := manifest.Write(s.disk, m); e != api.OK {
		return cmp.Or(s.disk.Remove(m.Fold), e)
	}
	s.manifest, s.base = m, f
	if e := s.foldFeeds(); e != api.OK {
		return e
	}
	s.examine()
	return s.clean()
}

// foldFeeds gives up the events that the fold has, in the feeds and on the
// disk.
func (s *Store) foldFeeds() api.Errno {
	for w := range s.feeds {
		if e := s.foldFeed(w); e != api.OK {
			return e
		}
	}
	return api.OK
}

// foldFeed does so for one feed. If that does not have all of these events, it
// cannot fold them, and begins anew behind them.
func (s *Store) foldFeed(w int) api.Errno {
	f, floor := s.feeds[w], s.manifest.Floor.Get(w)
	if floor < f.Next() {
		return f.Fold(floor, s.manifest.Time)
	}
	return s.openFeed(w)
}

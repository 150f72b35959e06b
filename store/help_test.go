package store_test

import (
	"encoding/binary"
	"fmt"
	"hash/crc32"
	"hash/fnv"
	"math"
	"math/rand"
	"slices"
	"strings"
	"testing"

	"anabranch/api"
	"anabranch/disk"
	"anabranch/store"
	"anabranch/vector"
)

// wide is room for everything that a test writes, and large a size that no file reaches.
const (
	wide  = 1 << 26
	large = math.MaxInt
)

// noNodes are numbers of no node.
var noNodes = []int{math.MinInt, -1 << 32, -64, -1, 64, 65, 127, 128, 1 << 32, math.MaxInt}

// full is an event of which every field has a value; those of Writer, Seq and Time are no store's.
var full = api.Event{Writer: 61, Seq: 1 << 40, Time: 1 << 50, Key: "key", Text: []byte("hi"), Num: 1.5, Node: 5}

// of returns full with a kind.
func of(kind byte) api.Event {
	e := full
	e.Kind = kind
	return e
}

func set(key, text string) api.Event { return api.Event{Kind: api.Set, Key: key, Text: []byte(text)} }
func add(key string, n float64) api.Event {
	return api.Event{Kind: api.Add, Key: key, Num: n}
}
func drop(key string) api.Event { return api.Event{Kind: api.Drop, Key: key} }
func join(node int) api.Event   { return api.Event{Kind: api.Join, Node: node} }
func retire() api.Event         { return api.Event{Kind: api.Retire} }

// at returns e as the event seq of a writer.
func at(writer int, seq, time uint64, e api.Event) api.Event {
	e.Writer, e.Seq, e.Time = writer, seq, time
	return e
}

func wantError(t *testing.T, what string, got, want api.Errno) {
	t.Helper()
	if got != want {
		t.Errorf("%s: %d, want %d", what, got, want)
	}
}

// wantEvents checks a list of events, to the bits of the quantities.
func wantEvents(t *testing.T, what string, got, want []api.Event) {
	t.Helper()
	if !slices.EqualFunc(got, want, same) {
		t.Errorf("%s = %d events %.300q, want %d events %.300q", what, len(got), fmt.Sprint(got), len(want), fmt.Sprint(want))
	}
}

// same reports whether two events are equal in every field.
func same(a, b api.Event) bool {
	return a.Writer == b.Writer && a.Seq == b.Seq && a.Time == b.Time && a.Kind == b.Kind && a.Key == b.Key &&
		string(a.Text) == string(b.Text) && math.Float64bits(a.Num) == math.Float64bits(b.Num) && a.Node == b.Node
}

// wantFiles checks that a disk that has not stopped has exactly these files.
func wantFiles(t *testing.T, what string, d *disk.Disk, files map[string]string) {
	t.Helper()
	got := contents(d)
	for name := range got {
		if want, ok := files[name]; !ok || want != got[name] {
			t.Errorf("%s: file %s = %d bytes %.200q, want %d bytes %.200q", what, name, len(got[name]), got[name], len(want), want)
		}
	}
	for name := range files {
		if _, ok := got[name]; !ok {
			t.Errorf("%s: there is no file %s", what, name)
		}
	}
}

// contents returns the files of a disk.
func contents(d *disk.Disk) map[string]string {
	files := map[string]string{}
	for _, name := range d.Names("") {
		p, _ := d.Read(name)
		files[name] = string(p)
	}
	return files
}

// with returns a disk with these files, durable.
func with(t *testing.T, files map[string]string) *disk.Disk {
	t.Helper()
	d := disk.New(wide)
	for name := range files {
		wantError(t, "Append", d.Append(name, []byte(files[name])), api.OK)
		wantError(t, "Sync", d.Sync(name), api.OK)
	}
	return d
}

// stop lets a disk stop.
func stop(d *disk.Disk) {
	d.Arm(0, 0)
	d.Sync("x")
}

// pair is a store with its disk and the model of both.
type pair struct {
	s *store.Store
	d *disk.Disk
	m *model
}

// begin returns the store of a node on a new disk.
func begin(t *testing.T, node, nodes, size int) *pair {
	t.Helper()
	p := &pair{d: disk.New(wide), m: &model{node: node, nodes: nodes, size: size, serial: 1, base: history{nodes: nodes}}}
	p.open(t)
	return p
}

// open opens the store again.
func (p *pair) open(t *testing.T) {
	t.Helper()
	s, e := store.Open(p.d, p.m.node, p.m.nodes, p.m.size)
	if e != api.OK || s == nil {
		t.Fatalf("Open: %v, %d", s, e)
	}
	p.s = s
	p.m.open()
}

// The following methods do something, and check the answer, but not what the store is then.

func (p *pair) write(t *testing.T, e api.Event) api.Errno {
	t.Helper()
	want, wrong := p.m.write(e)
	got, err := p.s.Write(e)
	if err != wrong || !same(got, want) {
		t.Errorf("Write(%v) = %v, %d, want %v, %d", e, got, err, want, wrong)
	}
	return err
}

func (p *pair) put(t *testing.T, base []uint64, l ...api.Event) (int, api.Errno) {
	t.Helper()
	want, wrong := p.m.put(base, l)
	got, err := p.s.Put(base, l)
	if got != want || err != wrong {
		t.Errorf("Put(%v, %.300q) = %d, %d, want %d, %d", base, fmt.Sprint(l), got, err, want, wrong)
	}
	return got, err
}

func (p *pair) truncate(t *testing.T, time uint64) api.Errno {
	t.Helper()
	wrong := p.m.truncate(time)
	err := p.s.Truncate(time)
	wantError(t, fmt.Sprintf("Truncate(%d)", time), err, wrong)
	return err
}

func (p *pair) install(t *testing.T, h history, time uint64) api.Errno {
	t.Helper()
	wrong := p.m.install(h, time)
	err := p.s.Install([]byte(h.encoded()), time)
	wantError(t, fmt.Sprintf("Install(%d events, %d)", len(h.l), time), err, wrong)
	return err
}

// writes writes events, each of which must be right.
func (p *pair) writes(t *testing.T, l ...api.Event) {
	t.Helper()
	for _, e := range l {
		if err := p.write(t, e); err != api.OK {
			t.Fatalf("Write(%v): %d", e, err)
		}
	}
}

// puts takes events, all of which must be new.
func (p *pair) puts(t *testing.T, l ...api.Event) {
	t.Helper()
	if n, err := p.put(t, nil, l...); err != api.OK || n != len(l) {
		t.Fatalf("Put: %d of %d, %d", n, len(l), err)
	}
}

// check checks everything that the store tells, and every file; then the same of the store opened again.
func (p *pair) check(t *testing.T, what string) {
	t.Helper()
	wantStore(t, what, p.s, p.m)
	wantFiles(t, what, p.d, p.m.files())
	wantNames(t, what, p.s, p.m)
	p.open(t)
	wantStore(t, what+", opened again", p.s, p.m)
	wantFiles(t, what+", opened again", p.d, p.m.files())
	wantNames(t, what+", opened again", p.s, p.m)
	if t.Failed() {
		t.FailNow()
	}
}

func wantNames(t *testing.T, what string, s *store.Store, m *model) {
	t.Helper()
	var names []string
	for name := range m.files() {
		if name != "manifest" {
			names = append(names, name)
		}
	}
	slices.Sort(names)
	if got := s.Files(); !slices.Equal(got, names) {
		t.Errorf("%s: Files() = %q, want %q", what, got, names)
	}
}

// wantStore checks everything that a store tells, but for Files.
func wantStore(t *testing.T, what string, s *store.Store, m *model) {
	t.Helper()
	all := m.all()
	if s.Node() != m.node || s.Clock() != m.clock() || s.Time() != m.time {
		t.Errorf("%s: node %d, clock %d, time %d, want %d, %d, %d", what, s.Node(), s.Clock(), s.Time(), m.node, m.clock(), m.time)
	}
	if got, want := s.Floor(), trimmed(m.base.have()); !slices.Equal(got, want) {
		t.Errorf("%s: Floor() = %v, want %v", what, got, want)
	}
	if got, want := s.Have(), trimmed(all.have()); !slices.Equal(got, want) {
		t.Errorf("%s: Have() = %v, want %v", what, got, want)
	}
	if got, want := string(s.Base().Encode()), m.base.encoded(); got != want {
		t.Errorf("%s: Base() = %.300q, want %.300q", what, got, want)
	}
	wantNodes(t, what, s, all)
	lists := s.Lists()
	if len(lists) != 64 {
		t.Fatalf("%s: %d lists", what, len(lists))
	}
	for w, l := range lists {
		wantEvents(t, fmt.Sprintf("%s: Lists()[%d]", what, w), l, m.rest[w])
		wantEvents(t, fmt.Sprintf("%s: Feed(%d).All()", what, w), s.Feed(w).All(), m.rest[w])
		f, floor, next := s.Feed(w), m.base.have()[w], all.have()[w]+1
		if f.Writer() != w || f.Floor() != floor || f.Next() != next {
			t.Errorf("%s: Feed(%d): writer %d, floor %d, next %d, want %d, %d", what, w, f.Writer(), f.Floor(), f.Next(), floor, next)
		}
		if len(m.rest[w]) == 0 && f.Time() != m.time {
			t.Errorf("%s: Feed(%d).Time() = %d, want %d", what, w, f.Time(), m.time)
		}
	}
	for _, w := range noNodes {
		if f := s.Feed(w); f != nil {
			t.Errorf("%s: Feed(%d) = %v", what, w, f)
		}
	}
}

// wantNodes checks what a store tells about nodes.
func wantNodes(t *testing.T, what string, s *store.Store, all history) {
	t.Helper()
	var members []int
	for n := range 64 {
		joined, retired := all.joined(n), all.retired(n)
		if joined && !retired {
			members = append(members, n)
		}
		if s.Joined(n) != joined || s.Member(n) != (joined && !retired) {
			t.Errorf("%s: node %d: joined %v, member %v, want %v, and retired %v", what, n, s.Joined(n), s.Member(n), joined, retired)
		}
	}
	for _, n := range noNodes {
		if s.Joined(n) || s.Member(n) {
			t.Errorf("%s: %d is no node", what, n)
		}
	}
	if got := s.Members(); !slices.Equal(got, members) {
		t.Errorf("%s: Members() = %v, want %v", what, got, members)
	}
}

// model is what a store and its disk must be, made without the program's packages: the events that are folded, the
// others by writers, and the number of the first event of each segment.
type model struct {
	node, nodes, size int
	serial, time      uint64
	base              history
	rest              [64][]api.Event
	firsts            [64][]uint64
}

// all returns all events. Those after the fold are only in the order of each writer.
func (m *model) all() history {
	return history{nodes: m.base.nodes, l: slices.Concat(m.base.l, slices.Concat(m.rest[:]...))}
}

func (m *model) clock() uint64 {
	clock := m.time
	for _, e := range m.all().l {
		clock = max(clock, e.Time)
	}
	return clock
}

// clone returns an independent copy.
func (m *model) clone() *model {
	c := *m
	c.base.l = slices.Clone(m.base.l)
	for w := range c.rest {
		c.rest[w], c.firsts[w] = slices.Clone(m.rest[w]), slices.Clone(m.firsts[w])
	}
	return &c
}

// open removes the segments without events after the floor.
func (m *model) open() {
	for w := range m.firsts {
		for len(m.firsts[w]) > 0 && m.next(w, 0) <= m.base.have()[w]+1 {
			m.firsts[w] = m.firsts[w][1:]
		}
	}
}

// next returns the number behind the events of a writer's segment.
func (m *model) next(w, i int) uint64 {
	if i+1 < len(m.firsts[w]) {
		return m.firsts[w][i+1]
	}
	return m.base.have()[w] + uint64(len(m.rest[w])) + 1
}

// segment returns the file of a writer's segment.
func (m *model) segment(w, i int) string {
	l := slices.Concat(m.base.of(w), m.rest[w])
	first := m.firsts[w][i]
	return file(w, first, l[first-1:m.next(w, i)-1]...)
}

// files returns the files of the disk.
func (m *model) files() map[string]string {
	name := ""
	files := map[string]string{}
	if m.serial > 1 {
		name = fmt.Sprintf("fold-%d", m.serial)
		files[name] = foldFile(m.node, m.serial, m.base.encoded())
	}
	files["manifest"] = manifestFile(m.node, m.serial, trimmed(m.base.have()), m.time, name)
	for w := range m.firsts {
		for i, first := range m.firsts[w] {
			files[nameOf(w, first)] = m.segment(w, i)
		}
	}
	return files
}

func (m *model) write(e api.Event) (api.Event, api.Errno) {
	all := m.all()
	if !all.joined(m.node) {
		return api.Event{}, api.ErrMember
	}
	if all.retired(m.node) {
		return api.Event{}, api.ErrRetired
	}
	e = at(m.node, all.have()[m.node]+1, m.clock()+1, e)
	if wrong := right(e); wrong != api.OK {
		return api.Event{}, wrong
	}
	if e.Kind == api.Join && all.joined(e.Node) {
		return api.Event{}, api.ErrOld
	}
	m.add(e)
	return plain(e), api.OK
}

func (m *model) put(base []uint64, l []api.Event) (int, api.Errno) {
	for i := 1; i < len(l); i++ {
		if l[i].Time < l[i-1].Time || l[i].Time == l[i-1].Time && l[i].Writer < l[i-1].Writer {
			return 0, api.ErrArg
		}
	}
	have := m.all().have()
	for w, n := range base {
		if w < 64 && n > have[w] || w >= 64 && n > 0 {
			return 0, api.ErrGap
		}
	}
	n := 0
	for _, e := range l {
		all := m.all()
		if e.Writer >= 0 && e.Writer < 64 && e.Seq > 0 && e.Seq <= all.have()[e.Writer] {
			continue
		}
		if wrong := m.taken(all, e); wrong != api.OK {
			return n, wrong
		}
		m.add(e)
		n++
	}
	return n, api.OK
}

// taken returns why an event is not taken.
func (m *model) taken(all history, e api.Event) api.Errno {
	if wrong := right(e); wrong != api.OK {
		return wrong
	}
	last := m.time
	if l := m.rest[e.Writer]; len(l) > 0 {
		last = l[len(l)-1].Time
	}
	switch {
	case !all.joined(e.Writer):
		return api.ErrMember
	case all.retired(e.Writer):
		return api.ErrRetired
	case e.Seq != all.have()[e.Writer]+1:
		return api.ErrGap
	case e.Time <= last:
		return api.ErrOld
	}
	return api.OK
}

// add appends an event to the last segment of its writer, or to a new one.
func (m *model) add(e api.Event) {
	w := e.Writer
	if n := len(m.firsts[w]); n == 0 || m.next(w, n-1) != e.Seq || len(m.segment(w, n-1)) >= m.size {
		m.firsts[w] = append(m.firsts[w], e.Seq)
	}
	m.rest[w] = append(m.rest[w], plain(e))
}

func (m *model) truncate(time uint64) api.Errno {
	if time > m.clock() || time < m.time {
		return api.ErrArg
	}
	h := history{nodes: m.base.nodes, l: slices.Clone(m.base.l)}
	for _, l := range m.rest {
		for _, e := range l {
			if e.Time <= time {
				h.l = append(h.l, e)
			}
		}
	}
	h.sort()
	m.become(h, time)
	return api.OK
}

func (m *model) install(h history, time uint64) api.Errno {
	all, have, wrong, fresh := m.all().have(), h.have(), api.OK, false
	for w := range 64 {
		fresh = fresh || have[w] > all[w]
		if m.base.have()[w] > have[w] {
			wrong = api.ErrArg
		}
		for _, e := range m.rest[w] {
			if e.Seq > have[w] && e.Time <= time {
				wrong = api.ErrArg
			}
		}
	}
	switch {
	case !fresh:
		return api.ErrOld
	case wrong != api.OK || time < m.time || h.last().Time > time:
		return api.ErrArg
	case time > api.End:
		return api.ErrExhausted
	}
	m.become(h, time)
	return api.OK
}

// become makes h the fold.
func (m *model) become(h history, time uint64) {
	for w, n := range h.have() {
		if all := m.all().have()[w]; n > all {
			m.firsts[w], m.rest[w] = nil, nil
			continue
		}
		m.rest[w] = m.rest[w][n-m.base.have()[w]:]
		for len(m.firsts[w]) > 1 && m.firsts[w][1] <= n+1 {
			m.firsts[w] = m.firsts[w][1:]
		}
	}
	m.base, m.time = h, time
	m.serial++
}

// history is events in the order of all events, before which nodes nodes have joined.
type history struct {
	nodes int
	l     []api.Event
}

func (h history) sort() {
	slices.SortFunc(h.l, func(a, b api.Event) int {
		if a.Time != b.Time {
			return int(int64(a.Time) - int64(b.Time))
		}
		return a.Writer - b.Writer
	})
}

// of returns the events of a writer.
func (h history) of(w int) []api.Event {
	var l []api.Event
	for _, e := range h.l {
		if e.Writer == w {
			l = append(l, e)
		}
	}
	return l
}

func (h history) have() (v [64]uint64) {
	for _, e := range h.l {
		v[e.Writer]++
	}
	return v
}

func (h history) last() api.Spot {
	if len(h.l) == 0 {
		return api.Spot{}
	}
	e := h.l[len(h.l)-1]
	return api.Spot{Time: e.Time, Writer: e.Writer}
}

func (h history) joined(n int) bool {
	return n < h.nodes || slices.ContainsFunc(h.l, func(e api.Event) bool { return e.Kind == api.Join && e.Node == n })
}

func (h history) retired(n int) bool {
	return slices.ContainsFunc(h.l, func(e api.Event) bool { return e.Kind == api.Retire && e.Writer == n })
}

// encoded returns the encoding of the fold of these events (P11.3).
func (h history) encoded() string {
	v := trimmed(h.have())
	p := binary.AppendUvarint(nil, uint64(len(v)))
	for _, n := range v {
		p = binary.AppendUvarint(p, n)
	}
	p = binary.AppendUvarint(binary.AppendUvarint(p, h.last().Time), uint64(h.last().Writer))
	var joined, retired uint64
	for n := range 64 {
		if h.joined(n) {
			joined |= 1 << n
		}
		if h.retired(n) {
			retired |= 1 << n
		}
	}
	mark := fnv.New64a()
	for _, e := range h.l {
		mark.Write([]byte(encoded(e)))
	}
	for _, n := range []uint64{joined, retired, mark.Sum64()} {
		p = binary.BigEndian.AppendUint64(p, n)
	}
	cells := h.cells()
	return string(binary.AppendUvarint(p, uint64(len(cells)))) + strings.Join(cells, "")
}

// cells returns the encodings of the keys that have values, in order.
func (h history) cells() []string {
	values := map[string]api.Cell{}
	for _, e := range h.l {
		switch c := values[e.Key]; {
		case e.Kind == api.Set:
			values[e.Key] = api.Cell{Kind: api.Set, Text: e.Text}
		case e.Kind == api.Add && c.Kind == api.Put:
			values[e.Key] = api.Cell{Kind: api.Put, Num: c.Num + e.Num}
		case e.Kind == api.Add || e.Kind == api.Put:
			values[e.Key] = api.Cell{Kind: api.Put, Num: e.Num}
		case e.Kind == api.Drop:
			delete(values, e.Key)
		}
	}
	var keys, l []string
	for key := range values {
		keys = append(keys, key)
	}
	slices.Sort(keys)
	for _, key := range keys {
		if c := values[key]; c.Kind == api.Set {
			l = append(l, text(key)+"\x01"+text(string(c.Text)))
		} else {
			l = append(l, text(key)+"\x02"+fixed(c.Num))
		}
	}
	return l
}

// trimmed returns numbers without trailing zeros.
func trimmed(v [64]uint64) vector.Vector {
	n := 64
	for n > 0 && v[n-1] == 0 {
		n--
	}
	return v[:n]
}

// right returns what is wrong with an event (P6.1).
func right(e api.Event) api.Errno {
	keyed := e.Kind >= api.Set && e.Kind <= api.Drop
	switch {
	case e.Writer < 0 || e.Writer > 63 || e.Seq == 0 || e.Time == 0 || e.Kind < api.Set || e.Kind > api.Retire:
		return api.ErrArg
	case e.Kind == api.Join && (e.Node < 0 || e.Node > 63):
		return api.ErrArg
	case keyed && (e.Key == "" || len(e.Key) > api.MaxKey) || e.Kind == api.Set && len(e.Text) > api.MaxText:
		return api.ErrLong
	case e.Seq > api.End || e.Time > api.End:
		return api.ErrExhausted
	}
	return api.OK
}

// plain returns an event without what its kind does not use (P6.1).
func plain(e api.Event) api.Event {
	p := api.Event{Writer: e.Writer, Seq: e.Seq, Time: e.Time, Kind: e.Kind}
	switch e.Kind {
	case api.Set:
		p.Key, p.Text = e.Key, e.Text
	case api.Put, api.Add:
		p.Key, p.Num = e.Key, e.Num
	case api.Drop:
		p.Key = e.Key
	case api.Join:
		p.Node = e.Node
	}
	return p
}

// The following functions make encodings and files without the program's packages.

var castagnoli = crc32.MakeTable(crc32.Castagnoli)

// text returns the length of a text, and the text.
func text(s string) string {
	return string(binary.AppendUvarint(nil, uint64(len(s)))) + s
}

// fixed returns the bits of a quantity.
func fixed(x float64) string {
	return string(binary.BigEndian.AppendUint64(nil, math.Float64bits(x)))
}

// encoded returns the encoding of an event (P6.2).
func encoded(e api.Event) string {
	p := binary.AppendUvarint(nil, uint64(e.Writer))
	s := string(append(binary.AppendUvarint(binary.AppendUvarint(p, e.Seq), e.Time), e.Kind))
	switch e.Kind {
	case api.Set:
		return s + text(e.Key) + text(string(e.Text))
	case api.Put, api.Add:
		return s + text(e.Key) + fixed(e.Num)
	case api.Drop:
		return s + text(e.Key)
	case api.Join:
		return s + string(binary.AppendUvarint(nil, uint64(e.Node)))
	}
	return s
}

// sealed returns the record of these contents (P3.1).
func sealed(contents string) string {
	p := append(binary.AppendUvarint(nil, uint64(len(contents))), contents...)
	return string(binary.BigEndian.AppendUint32(p, crc32.Checksum(p, castagnoli)))
}

// head returns the record of a title (P5.1).
func head(kind byte, a, b uint64) string {
	return sealed(string(binary.AppendUvarint(binary.AppendUvarint([]byte{'a', 'n', 'a', '1', kind}, a), b)))
}

// nameOf returns the name of a segment's file, and file its bytes (P8.1).
func nameOf(writer int, first uint64) string {
	return fmt.Sprintf("feed-%d-%016x", writer, first)
}

func file(writer int, first uint64, l ...api.Event) string {
	p := head('s', uint64(writer), first)
	for _, e := range l {
		p += sealed(encoded(e))
	}
	return p
}

// manifestFile returns the bytes of a manifest's file (P10.2).
func manifestFile(node int, serial uint64, floor []uint64, time uint64, fold string) string {
	p := binary.AppendUvarint(binary.AppendUvarint(nil, uint64(node)), serial)
	p = binary.AppendUvarint(p, uint64(len(floor)))
	for _, n := range floor {
		p = binary.AppendUvarint(p, n)
	}
	return head('m', uint64(node), serial) + sealed(string(binary.AppendUvarint(p, time))+text(fold))
}

// foldFile returns the bytes of a fold's file (P14.1).
func foldFile(node int, serial uint64, p string) string {
	records := head('f', uint64(node), serial)
	for len(p) > 1048576 {
		records += sealed(p[:1048576])
		p = p[1048576:]
	}
	return records + sealed(p)
}

func newRandom(seed int64) *rand.Rand {
	return rand.New(rand.NewSource(seed))
}

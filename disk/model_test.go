package disk_test

import (
	"cmp"
	"math/rand"
	"slices"
	"strings"
	"testing"

	"anabranch/api"
	"anabranch/disk"
)

// model is the chapter, told as simply as possible: a list of files, each in two parts.
type model struct {
	files      []entry
	room, acts int
	armed      bool
	left, torn int
	off        bool
}

type entry struct{ name, safe, rest string }

func (m *model) at(name string) int {
	return slices.IndexFunc(m.files, func(f entry) bool { return f.name == name })
}

func (m *model) total() int {
	n := 0
	for _, f := range m.files {
		n += len(f.safe) + len(f.rest)
	}
	return n
}

func (m *model) add(name, p string) {
	if m.at(name) < 0 {
		m.files = append(m.files, entry{name: name})
	}
	m.files[m.at(name)].rest += p
}

func (m *model) remove(name string) {
	m.files = slices.DeleteFunc(m.files, func(f entry) bool { return f.name == name })
}

// step is an operation: its kind, its arguments.
type step struct {
	kind     string
	name, to string
	p        string
	n        int
}

// do returns the error of a step. Every name of a step is valid.
func (m *model) do(s step) api.Errno {
	if m.off {
		return api.ErrStop
	}
	m.acts++
	if m.armed && m.left == 0 {
		m.off = true
		torn := s.p[:min(len(s.p), max(m.torn, 0))]
		if s.kind == "append" && m.torn > 0 && m.total()+len(torn) <= m.room {
			m.add(s.name, torn)
		}
		return api.ErrStop
	}
	m.left--
	if s.kind == "append" {
		if m.total()+len(s.p) > m.room {
			return api.ErrFull
		}
		m.add(s.name, s.p)
		return api.OK
	}
	i := m.at(s.name)
	if i < 0 {
		return api.ErrNone
	}
	return m.change(s, m.files[i])
}

// change is a step on the file f.
func (m *model) change(s step, f entry) api.Errno {
	whole := f.safe + f.rest
	if s.kind == "cut" && (s.n < 0 || s.n > len(whole)) {
		return api.ErrArg
	}
	m.remove(f.name)
	switch s.kind {
	case "sync":
		m.files = append(m.files, entry{f.name, whole, ""})
	case "cut":
		m.files = append(m.files, entry{f.name, whole[:s.n], ""})
	case "move":
		m.remove(s.to)
		m.files = append(m.files, entry{s.to, f.safe, f.rest})
	}
	return api.OK
}

func (m *model) crash(keep int) {
	for i, f := range m.files {
		m.files[i] = entry{f.name, f.safe + f.rest[:min(len(f.rest), max(keep, 0))], ""}
	}
	m.off, m.armed = false, false
}

func run(d *disk.Disk, s step) api.Errno {
	switch s.kind {
	case "append":
		return d.Append(s.name, []byte(s.p))
	case "sync":
		return d.Sync(s.name)
	case "move":
		return d.Move(s.name, s.to)
	case "cut":
		return d.Cut(s.name, s.n)
	}
	return d.Remove(s.name)
}

func randomStep(r *rand.Rand) step {
	name := func() string { return string("abc"[r.Intn(3)]) }
	kinds := []string{"append", "append", "append", "append", "sync", "sync", "move", "cut", "remove"}
	p := strings.Repeat(string("pqrs"[r.Intn(4)]), r.Intn(5))
	return step{kinds[r.Intn(len(kinds))], name(), name(), p, r.Intn(12) - 1}
}

// TestAgainstTheModel is P4.1, P4.2 and P4.3, for all that may come after all.
func TestAgainstTheModel(t *testing.T) {
	r := rand.New(rand.NewSource(4))
	for range 3000 {
		room := r.Intn(25) - 1
		d, m := disk.New(room), &model{room: room}
		for range 60 {
			switch r.Intn(12) {
			case 0:
				keep := r.Intn(8) - 2
				d.Crash(keep)
				m.crash(keep)
			case 1:
				acts, torn := r.Intn(8)-1, r.Intn(7)-1
				d.Arm(acts, torn)
				m.armed, m.left, m.torn = acts >= 0, acts, torn
			case 2:
				room := r.Intn(25) - 1
				d.Widen(room)
				m.room = room
			default:
				s := randomStep(r)
				got, want := run(d, s), m.do(s)
				if got != want {
					t.Fatalf("%v: %d, want %d", s, got, want)
				}
			}
			same(t, d, m)
		}
	}
}

// same checks that the disk shows what the model holds.
func same(t *testing.T, d *disk.Disk, m *model) {
	t.Helper()
	room, n := d.Room()
	if d.On() == m.off || d.Acts() != m.acts || room != m.room || n != m.total() {
		t.Fatalf("On %v, Acts %d, Room %d, %d, want %+v", d.On(), d.Acts(), room, n, m)
	}
	slices.SortFunc(m.files, func(a, b entry) int { return cmp.Compare(a.name, b.name) })
	var names []string
	for _, f := range m.files {
		if got := d.Safe(f.name); got != len(f.safe) {
			t.Fatalf("Safe(%s) = %d, want %+v", f.name, got, m)
		}
		p, e := d.Read(f.name)
		if m.off && (len(p) != 0 || e != api.ErrStop) || !m.off && (string(p) != f.safe+f.rest || e != api.OK) {
			t.Fatalf("Read(%s) = %q, %d, want %+v", f.name, p, e, m)
		}
		if !m.off {
			names = append(names, f.name)
		}
	}
	if got := d.Names(""); !slices.Equal(got, names) {
		t.Fatalf("Names = %q, want %q", got, names)
	}
}

package disk

import (
	"bytes"
	"math"
	"math/rand/v2"
	"slices"
	"strings"
	"testing"

	"winnower/api"
)

// model is a disk by the chapter's words: a list of files in the order of their names,
// each with the bytes that are synced and, apart from them, those that are not.
type model struct {
	files []modelFile
	room  int
	arm   int // -1: not armed
	dead  bool
}

type modelFile struct {
	name, synced, others string
}

func (m *model) place(name string) (int, bool) {
	return slices.BinarySearchFunc(m.files, name, func(f modelFile, name string) int { return strings.Compare(f.name, name) })
}

func (m *model) used() int {
	n := 0
	for _, f := range m.files {
		n += len(f.synced + f.others)
	}
	return n
}

// operate executes an operation with the first of errors that is not OK.
func (m *model) operate(effect func(), errors ...api.Errno) api.Errno {
	if m.dead {
		return api.ErrDead
	}
	for _, e := range errors {
		if e != api.OK {
			return e
		}
	}
	if m.arm == 0 {
		m.dead = true
		return api.ErrDead
	}
	if m.arm > 0 {
		m.arm--
	}
	effect()
	return api.OK
}

func unless(holds bool, e api.Errno) api.Errno {
	if holds {
		return api.OK
	}
	return e
}

func (m *model) create(name string) api.Errno {
	i, there := m.place(name)
	return m.operate(func() { m.files = slices.Insert(m.files, i, modelFile{name: name}) },
		unless(len(name) > 0 && len(name) < 33, api.ErrArg),
		unless(!there, api.ErrThere),
		unless(len(m.files) < 256, api.ErrFull))
}

func (m *model) append(name string, b []byte) api.Errno {
	i, there := m.place(name)
	return m.operate(func() { m.files[i].others += string(b) },
		unless(there, api.ErrNone),
		unless(m.used()+len(b) <= m.room, api.ErrFull))
}

func (m *model) sync(name string) api.Errno {
	i, there := m.place(name)
	return m.operate(func() {
		m.files[i].synced += m.files[i].others
		m.files[i].others = ""
	}, unless(there, api.ErrNone))
}

func (m *model) delete(name string) api.Errno {
	i, there := m.place(name)
	return m.operate(func() { m.files = slices.Delete(m.files, i, i+1) }, unless(there, api.ErrNone))
}

func (m *model) crash(keep []int) {
	m.dead, m.arm = false, -1
	number := 0
	for i, f := range m.files {
		if f.others == "" {
			continue
		}
		if len(keep) > 0 && keep[number%len(keep)] >= 0 {
			m.files[i].synced += f.others[:keep[number%len(keep)]%(len(f.others)+1)]
		}
		m.files[i].others = ""
		number++
	}
}

func (m *model) copy() *model {
	again := *m
	again.files = slices.Clone(m.files)
	return &again
}

// agree checks that the disk tells what the model tells.
func agree(t *testing.T, step string, d *Disk, m *model) {
	t.Helper()
	var names []string
	for _, f := range m.files {
		b, e := d.Read(f.name)
		if m.dead {
			if len(b) != 0 || e != api.ErrDead {
				t.Fatalf("%s: Read of %q of a dead disk: %q, %d", step, f.name, b, e)
			}
			continue
		}
		names = append(names, f.name)
		if string(b) != f.synced+f.others || e != api.OK {
			t.Fatalf("%s: Read of %q: %q, %d, not %q", step, f.name, b, e, f.synced+f.others)
		}
	}
	if l := d.List(); !slices.Equal(l, names) {
		t.Fatalf("%s: List: %q, not %q", step, l, names)
	}
	if d.Used() != m.used() || d.Dead() != m.dead {
		t.Fatalf("%s: Used: %d, Dead: %v, not %d, %v", step, d.Used(), d.Dead(), m.used(), m.dead)
	}
}

// script yields numbers from bytes, and 0 when there are no more.
type script struct{ b []byte }

func (s *script) next(n int) int {
	if len(s.b) == 0 {
		return 0
	}
	v := int(s.b[0]) % n
	s.b = s.b[1:]
	return v
}

func (s *script) name() string {
	names := []string{"a", "b", "c", "d", "B", "aa", "\xff", strings.Repeat("n", 32), "", strings.Repeat("n", 33)}
	return names[s.next(len(names))]
}

func (s *script) keep() []int {
	numbers := []int{0, 1, 2, 3, 4, 5, 7, 30, math.MaxInt, -1, math.MinInt}
	var keep []int
	for range s.next(5) {
		keep = append(keep, numbers[s.next(len(numbers))])
	}
	return keep
}

// play executes what the script says on the disk and on the model.
func (s *script) play(t *testing.T, d *Disk, m *model) {
	t.Helper()
	for len(s.b) > 0 {
		step, got, e := s.step(d, m)
		if got != e {
			t.Fatalf("%s: %d, not %d", step, got, e)
		}
		agree(t, step, d, m)
	}
}

// step executes one call, and returns its name, its error and the model's.
func (s *script) step(d *Disk, m *model) (string, api.Errno, api.Errno) {
	switch call := s.next(16); call {
	case 0, 1, 2:
		name := s.name()
		return "Create", d.Create(name), m.create(name)
	case 3, 4, 5, 6, 7:
		name, b := s.name(), bytes.Repeat([]byte{byte('0' + s.next(10))}, s.next(9))
		return "Append", d.Append(name, b), m.append(name, b)
	case 8, 9:
		name := s.name()
		return "Sync", d.Sync(name), m.sync(name)
	case 10:
		name := s.name()
		return "Delete", d.Delete(name), m.delete(name)
	case 11:
		room := []int{0, 10, 30, 100, api.MaxCap, -1, api.MaxCap + 1}[s.next(7)]
		d.Room(room)
		if room >= 0 && room <= 1<<24 {
			m.room = room
		}
		return "Room", api.OK, api.OK
	case 12:
		n := s.next(12) - 3
		d.Arm(n)
		m.arm = max(n, -1)
		return "Arm", api.OK, api.OK
	case 13, 14:
		keep := s.keep()
		d.Crash(keep)
		m.crash(keep)
		return "Crash", api.OK, api.OK
	default:
		// What becomes of a copy is nothing to the disk.
		again, other := d.Copy(), m.copy()
		keep := s.keep()
		again.Crash(keep)
		other.crash(keep)
		name := s.name()
		return "Append to a copy", again.Append(name, []byte("copy")), other.append(name, []byte("copy"))
	}
}

func TestModel(t *testing.T) {
	for seed := range uint64(400) {
		random := rand.New(rand.NewPCG(seed, 5))
		b := make([]byte, 1000)
		for i := range b {
			b[i] = byte(random.Uint32())
		}
		(&script{b}).play(t, newDisk(t, 60), &model{room: 60, arm: -1})
	}
}

// The synced bytes are those that the test saw in the file when it was synced, or at a crash.
func TestSyncedBytesRemain(t *testing.T) {
	for seed := range uint64(200) {
		random := rand.New(rand.NewPCG(seed, 6))
		d, synced := newDisk(t, 200), map[string][]byte{}
		for range 300 {
			name := []string{"a", "b", "c", "d"}[random.IntN(4)]
			switch random.IntN(12) {
			case 0:
				d.Arm(random.IntN(9))
			case 1:
				if d.Delete(name) == api.OK {
					delete(synced, name)
				}
			case 2, 3:
				d.Create(name)
			case 4, 5:
				if d.Sync(name) == api.OK {
					synced[name], _ = d.Read(name)
				}
			case 6:
				crashKeepsPrefixes(t, d, synced, []int{random.IntN(50) - 5, random.IntN(50)})
			default:
				d.Append(name, []byte{byte(random.Uint32()), byte(random.Uint32())})
			}
		}
	}
}

func crashKeepsPrefixes(t *testing.T, d *Disk, synced map[string][]byte, keep []int) {
	t.Helper()
	// A copy that loses nothing tells what a disk contains that is dead.
	whole := d.Copy()
	whole.dead = false
	names := whole.List()
	d.Crash(keep)
	if l := d.List(); !slices.Equal(l, names) {
		t.Fatalf("List: %q, not %q", l, names)
	}
	for _, name := range names {
		before, _ := whole.Read(name)
		after, e := d.Read(name)
		if e != api.OK || !bytes.HasPrefix(before, after) || !bytes.HasPrefix(after, synced[name]) {
			t.Fatalf("%q is %q, %d after a crash, of %q with %q synced", name, after, e, before, synced[name])
		}
		synced[name] = after
	}
}

func FuzzDisk(f *testing.F) {
	f.Add([]byte{0, 0, 3, 0, 7, 8, 8, 0, 3, 0, 8, 5, 13, 1, 2, 15})
	f.Add([]byte{12, 4, 0, 1, 0, 2, 4, 1, 1, 3, 13, 0})
	f.Fuzz(func(t *testing.T, b []byte) {
		(&script{b}).play(t, newDisk(t, 60), &model{room: 60, arm: -1})
	})
}

package disk

import (
	"bytes"
	"math"
	"slices"
	"strconv"
	"strings"
	"testing"

	"winnower/api"
)

func newDisk(t *testing.T, room int) *Disk {
	t.Helper()
	d, e := New(room)
	if e != api.OK || d == nil {
		t.Fatalf("New(%d): %v, %d", room, d, e)
	}
	return d
}

// put creates a file of which the first bytes are synced and the others are not.
func put(t *testing.T, d *Disk, name, synced, others string) {
	t.Helper()
	want(t, "Create "+name, d.Create(name), api.OK)
	want(t, "Append "+name, d.Append(name, []byte(synced)), api.OK)
	want(t, "Sync "+name, d.Sync(name), api.OK)
	want(t, "Append "+name, d.Append(name, []byte(others)), api.OK)
}

func want(t *testing.T, name string, got, e api.Errno) {
	t.Helper()
	if got != e {
		t.Fatalf("%s: %d, not %d", name, got, e)
	}
}

// holds checks that a disk that is not dead has just the files, given as name, bytes, name, bytes ..
func holds(t *testing.T, name string, d *Disk, files ...string) {
	t.Helper()
	var names []string
	used := 0
	for i := 0; i < len(files); i += 2 {
		names = append(names, files[i])
		used += len(files[i+1])
		b, e := d.Read(files[i])
		if e != api.OK || string(b) != files[i+1] {
			t.Fatalf("%s: Read of %q: %q, %d, not %q", name, files[i], b, e, files[i+1])
		}
	}
	if l := d.List(); !slices.Equal(l, names) {
		t.Fatalf("%s: List: %q, not %q", name, l, names)
	}
	if d.Used() != used {
		t.Fatalf("%s: Used: %d, not %d", name, d.Used(), used)
	}
	if d.Dead() {
		t.Fatalf("%s: the disk is dead", name)
	}
}

func TestExamples(t *testing.T) {
	d := newDisk(t, 10)
	want(t, "Create", d.Create("f"), api.OK)
	want(t, "Append", d.Append("f", []byte{1, 2, 3}), api.OK)
	again := d.Copy()
	d.Crash([]int{2})
	holds(t, "without a Sync", d, "f", "\x01\x02")

	want(t, "Sync", again.Sync("f"), api.OK)
	again.Crash([]int{2})
	holds(t, "with a Sync", again, "f", "\x01\x02\x03")
}

func TestNewIsEmpty(t *testing.T) {
	for _, room := range []int{0, 1, 9999, api.MaxCap - 1, api.MaxCap} {
		d := newDisk(t, room)
		holds(t, "a new disk", d)
		want(t, "Create", d.Create("a"), api.OK)
		want(t, "Append of too much", d.Append("a", make([]byte, room+1)), api.ErrFull)
		want(t, "Append of as much as there is room for", d.Append("a", make([]byte, room)), api.OK)
		want(t, "Append of one more", d.Append("a", []byte{1}), api.ErrFull)
		if d.Used() != room {
			t.Errorf("Used: %d, not %d", d.Used(), room)
		}
	}
}

func TestNewOutOfRange(t *testing.T) {
	for _, room := range []int{-1, -2, math.MinInt, api.MaxCap + 1, math.MaxInt} {
		if d, e := New(room); d != nil || e != api.ErrArg {
			t.Errorf("New(%d): %v, %d", room, d, e)
		}
	}
}

func TestNames(t *testing.T) {
	for _, c := range []struct {
		name string
		e    api.Errno
	}{
		{"", api.ErrArg},
		{"a", api.OK},
		{" ", api.OK},
		{"\x00", api.OK},
		{"\xff", api.OK},
		{"../a b\n", api.OK},
		{strings.Repeat("x", 31), api.OK},
		{strings.Repeat("x", 32), api.OK},
		{strings.Repeat("x", 33), api.ErrArg},
		{strings.Repeat("\xff", 32), api.OK},
		{strings.Repeat("é", 16), api.OK},
		{strings.Repeat("é", 17), api.ErrArg},
		{strings.Repeat("x", 1000), api.ErrArg},
	} {
		d := newDisk(t, 9)
		want(t, "Create of "+strconv.Quote(c.name), d.Create(c.name), c.e)
		if c.e == api.OK {
			want(t, "Append", d.Append(c.name, []byte("b")), api.OK)
			holds(t, "a valid name", d, c.name, "b")
			continue
		}
		want(t, "Append to an invalid name", d.Append(c.name, nil), api.ErrNone)
		want(t, "Sync of an invalid name", d.Sync(c.name), api.ErrNone)
		want(t, "Delete of an invalid name", d.Delete(c.name), api.ErrNone)
		if b, e := d.Read(c.name); len(b) != 0 || e != api.ErrNone {
			t.Errorf("Read of %q: %v, %d", c.name, b, e)
		}
		holds(t, "an invalid name", d)
	}
}

func TestListIsBytewise(t *testing.T) {
	names := []string{"\x00", "\x00\x00", " ", "10", "9", "B", "a", "a\x00", "aa", "ab", "b", "é", "\xff"}
	for shift := range names {
		d := newDisk(t, 0)
		for i := range names {
			want(t, "Create", d.Create(names[(i*5+shift)%len(names)]), api.OK)
		}
		if l := d.List(); !slices.Equal(l, names) {
			t.Errorf("List: %q, not %q", l, names)
		}
	}
}

func TestRead(t *testing.T) {
	d := newDisk(t, 9)
	put(t, d, "a", "12", "3")
	want(t, "Create", d.Create("b"), api.OK)
	holds(t, "a file with bytes, and one without", d, "a", "123", "b", "")
	for _, name := range []string{"", "c", "A", "a ", strings.Repeat("x", 33)} {
		if b, e := d.Read(name); len(b) != 0 || e != api.ErrNone {
			t.Errorf("Read of %q: %q, %d", name, b, e)
		}
	}
}

func TestMostFiles(t *testing.T) {
	d := newDisk(t, 0)
	for i := range api.MaxFiles {
		want(t, "Create", d.Create(strconv.Itoa(i)), api.OK)
	}
	for range 2 {
		want(t, "Create of one more", d.Create("new"), api.ErrFull)
		want(t, "Create of one that is there", d.Create("0"), api.ErrThere)
		want(t, "Create without a name", d.Create(""), api.ErrArg)
		d.Crash(nil)
	}
	if n := len(d.List()); n != 256 {
		t.Errorf("%d files", n)
	}
	want(t, "Delete", d.Delete("77"), api.OK)
	want(t, "Create after a Delete", d.Create("new"), api.OK)
	want(t, "Create of the one that was deleted", d.Create("77"), api.ErrFull)
}

func TestJustFull(t *testing.T) {
	d := newDisk(t, 7)
	put(t, d, "a", "12", "")
	put(t, d, "b", "34", "5")
	want(t, "Append of too much", d.Append("a", []byte("678")), api.ErrFull)
	holds(t, "after an Append of too much", d, "a", "12", "b", "345")
	want(t, "Append of what there is room for", d.Append("a", []byte("67")), api.OK)
	holds(t, "a full disk", d, "a", "1267", "b", "345")
	want(t, "Append of one more", d.Append("b", []byte("8")), api.ErrFull)
	want(t, "Append of no byte", d.Append("b", nil), api.OK)
	want(t, "Create on a full disk", d.Create("c"), api.OK)
	want(t, "Append of one to a new file", d.Append("c", []byte("8")), api.ErrFull)
	want(t, "Sync on a full disk", d.Sync("b"), api.OK)
	want(t, "Delete on a full disk", d.Delete("b"), api.OK)
	want(t, "Append of what was deleted", d.Append("c", []byte("890")), api.OK)
	d.Crash([]int{1, 0})
	holds(t, "after a crash", d, "a", "126", "c", "")
	want(t, "Append of more than what was lost", d.Append("c", []byte("ABCDE")), api.ErrFull)
	want(t, "Append of what was lost", d.Append("c", []byte("ABCD")), api.OK)
}

func TestRoom(t *testing.T) {
	d := newDisk(t, 3)
	put(t, d, "a", "123", "")
	for _, room := range []int{-1, math.MinInt, api.MaxCap + 1, math.MaxInt} {
		d.Room(room)
		want(t, "Append after a Room out of range", d.Append("a", []byte("4")), api.ErrFull)
		want(t, "Append of no byte after a Room out of range", d.Append("a", nil), api.OK)
	}
	d.Room(4)
	want(t, "Append with more room", d.Append("a", []byte("4")), api.OK)
	want(t, "Append of one more", d.Append("a", []byte("5")), api.ErrFull)
	d.Room(0)
	holds(t, "with less room than is used", d, "a", "1234")
	// Even without b the bytes exceed the capacity.
	want(t, "Append of no byte, with less room than is used", d.Append("a", nil), api.ErrFull)
	want(t, "Sync, with less room than is used", d.Sync("a"), api.OK)
	want(t, "Create, with less room than is used", d.Create("b"), api.OK)
	want(t, "Delete, with less room than is used", d.Delete("a"), api.OK)
	want(t, "Append of no byte without room", d.Append("b", nil), api.OK)
	want(t, "Append of one without room", d.Append("b", []byte("1")), api.ErrFull)
	d.Room(api.MaxCap)
	want(t, "Append with the most room", d.Append("b", make([]byte, api.MaxCap)), api.OK)
	want(t, "Append of one more than that", d.Append("b", []byte("1")), api.ErrFull)
}

// deed is an operation, and the error it is to return.
type deed struct {
	name string
	do   func(d *Disk) api.Errno
	e    api.Errno
}

func create(name string, e api.Errno) deed {
	return deed{"Create of " + strconv.Quote(name), func(d *Disk) api.Errno { return d.Create(name) }, e}
}

func appendTo(name string, n int, e api.Errno) deed {
	return deed{"Append of " + strconv.Itoa(n) + " to " + strconv.Quote(name), func(d *Disk) api.Errno { return d.Append(name, make([]byte, n)) }, e}
}

func syncOf(name string, e api.Errno) deed {
	return deed{"Sync of " + strconv.Quote(name), func(d *Disk) api.Errno { return d.Sync(name) }, e}
}

func deleteOf(name string, e api.Errno) deed {
	return deed{"Delete of " + strconv.Quote(name), func(d *Disk) api.Errno { return d.Delete(name) }, e}
}

// full is a disk with 256 files and as many bytes as it has room for, a few of them not synced.
func full(t *testing.T) *Disk {
	t.Helper()
	d := newDisk(t, 9)
	put(t, d, "a", "1234", "56")
	put(t, d, "b", "", "789")
	for i := 2; i < api.MaxFiles; i++ {
		want(t, "Create", d.Create("f"+strconv.Itoa(i)), api.OK)
	}
	return d
}

// failing are operations with an error of their own, on the disk of full.
func failing() []deed {
	long := strings.Repeat("x", 33)
	return []deed{
		create("", api.ErrArg),
		create(long, api.ErrArg),
		create("a", api.ErrThere),
		create("c", api.ErrFull),
		appendTo("a", 1, api.ErrFull),
		appendTo("b", 1<<25, api.ErrFull),
		appendTo("c", 0, api.ErrNone),
		appendTo("c", 1, api.ErrNone),
		appendTo("", 1<<25, api.ErrNone),
		syncOf("c", api.ErrNone),
		syncOf("", api.ErrNone),
		deleteOf("c", api.ErrNone),
		deleteOf(long, api.ErrNone),
	}
}

// working are operations without an error, in an order that works on the disk of full.
func working() []deed {
	return []deed{
		appendTo("a", 0, api.OK),
		syncOf("a", api.OK),
		syncOf("a", api.OK),
		deleteOf("a", api.OK),
		create("c", api.OK),
		appendTo("c", 6, api.OK),
		syncOf("c", api.OK),
		create("a", api.ErrFull),
		deleteOf("b", api.OK),
		create("b", api.OK),
	}
}

func TestErrorsOfADeadDiskComeFirst(t *testing.T) {
	d := full(t)
	d.Arm(0)
	want(t, "Sync", d.Sync("a"), api.ErrDead)
	for _, x := range append(failing(), working()...) {
		want(t, x.name+" on a dead disk", x.do(d), api.ErrDead)
	}
}

func TestOwnErrorsComeBeforeThatOfAnArmedDisk(t *testing.T) {
	for _, n := range []int{-1, 0, 1, 2} {
		d := full(t)
		was := d.Copy()
		d.Arm(n)
		for _, x := range append(failing(), failing()...) {
			want(t, x.name, x.do(d), x.e)
			if d.Dead() {
				t.Fatalf("%s: the disk is dead", x.name)
			}
		}
		same(t, "after errors", d, was)
		for left := range max(n, 0) {
			want(t, "Sync with "+strconv.Itoa(n-left), d.Sync("a"), api.OK)
		}
		if n >= 0 {
			want(t, "Sync with 0", d.Sync("a"), api.ErrDead)
		}
	}
}

// same checks that two disks that may be dead have the same files, and would after any crash.
func same(t *testing.T, name string, d, was *Disk) {
	t.Helper()
	for _, keep := range [][]int{nil, {1 << 30}, {1, 2, 0}, {2, 1}} {
		x, y := d.Copy(), was.Copy()
		x.Crash(keep)
		y.Crash(keep)
		if !slices.Equal(x.List(), y.List()) {
			t.Fatalf("%s: files %q, not %q", name, x.List(), y.List())
		}
		for _, n := range x.List() {
			b, _ := x.Read(n)
			c, _ := y.Read(n)
			if !bytes.Equal(b, c) {
				t.Fatalf("%s: %q is %q, not %q", name, n, b, c)
			}
		}
	}
}

func TestArmedWithZero(t *testing.T) {
	for _, x := range []deed{
		appendTo("a", 0, api.ErrDead),
		appendTo("a", 1, api.ErrDead),
		syncOf("a", api.ErrDead),
		syncOf("b", api.ErrDead),
		deleteOf("a", api.ErrDead),
		deleteOf("b", api.ErrDead),
		create("c", api.ErrDead),
	} {
		d := newDisk(t, 9)
		put(t, d, "a", "12", "34")
		put(t, d, "b", "", "567")
		was := d.Copy()
		d.Arm(0)
		holds(t, "before "+x.name, d, "a", "1234", "b", "567")
		want(t, x.name, x.do(d), api.ErrDead)
		if !d.Dead() {
			t.Errorf("%s: the disk is not dead", x.name)
		}
		if d.Used() != 7 {
			t.Errorf("%s: Used: %d", x.name, d.Used())
		}
		same(t, x.name, d, was)
	}
}

func TestArmedWithMore(t *testing.T) {
	for n := range len(working()) {
		d, was := full(t), full(t)
		d.Arm(n)
		done, died := 0, false
		for _, x := range working() {
			if died = x.e == api.OK && done == n; died {
				want(t, x.name+" with 0", x.do(d), api.ErrDead)
				break
			}
			want(t, x.name, x.do(d), x.e)
			want(t, x.name, x.do(was), x.e)
			if x.e == api.OK {
				done++
			}
		}
		same(t, "armed with "+strconv.Itoa(n), d, was)
		if d.Dead() != died || d.Used() != was.Used() {
			t.Errorf("armed with %d: Dead: %v, Used: %d, not %v, %d", n, d.Dead(), d.Used(), died, was.Used())
		}
	}
}

func TestArmAgain(t *testing.T) {
	d := newDisk(t, 9)
	want(t, "Create", d.Create("a"), api.OK)
	d.Arm(0)
	for _, n := range []int{-1, math.MinInt} {
		d.Arm(n)
		for range 3 {
			want(t, "Sync of a disk that is not armed any more", d.Sync("a"), api.OK)
		}
	}
	d.Arm(1)
	want(t, "Sync with 1", d.Sync("a"), api.OK)
	d.Arm(2)
	want(t, "Sync with 2", d.Sync("a"), api.OK)
	d.Arm(math.MaxInt)
	for range 3 {
		want(t, "Sync with a great number", d.Sync("a"), api.OK)
	}
	d.Arm(1)
	d.Read("a")
	d.List()
	d.Used()
	d.Room(8)
	d.Copy()
	d.Dead()
	want(t, "Sync after calls that are not operations", d.Sync("a"), api.OK)
	want(t, "Sync with 0", d.Sync("a"), api.ErrDead)
}

func TestDead(t *testing.T) {
	d := newDisk(t, 9)
	put(t, d, "a", "12", "34")
	d.Arm(0)
	want(t, "Create", d.Create("b"), api.ErrDead)
	for _, n := range []int{-1, 0, 5} {
		d.Arm(n)
		want(t, "Sync", d.Sync("a"), api.ErrDead)
		if !d.Dead() || len(d.List()) != 0 || d.Used() != 4 {
			t.Errorf("Dead: %v, List: %q, Used: %d", d.Dead(), d.List(), d.Used())
		}
		for _, name := range []string{"a", "b", ""} {
			if b, e := d.Read(name); len(b) != 0 || e != api.ErrDead {
				t.Errorf("Read of %q: %q, %d", name, b, e)
			}
		}
	}
	d.Room(5)
	d.Crash([]int{1})
	holds(t, "after a crash", d, "a", "123")
	want(t, "Append of more than the room that was set", d.Append("a", []byte("456")), api.ErrFull)
	for range 9 {
		want(t, "Sync of a disk that a crash left not armed", d.Sync("a"), api.OK)
	}
	want(t, "Append", d.Append("a", []byte("45")), api.OK)
}

func TestNil(t *testing.T) {
	var d *Disk
	for range 2 {
		for _, x := range append(failing(), working()...) {
			want(t, x.name+" on nil", x.do(d), api.ErrDead)
		}
		if b, e := d.Read("a"); len(b) != 0 || e != api.ErrDead {
			t.Errorf("Read: %q, %d", b, e)
		}
		if !d.Dead() || len(d.List()) != 0 || d.Used() != 0 {
			t.Errorf("Dead: %v, List: %q, Used: %d", d.Dead(), d.List(), d.Used())
		}
		if again := d.Copy(); !again.Dead() || again.Used() != 0 || len(again.List()) != 0 {
			t.Errorf("Copy: %v", again)
		}
		d.Room(5)
		d.Arm(-1)
		d.Arm(5)
		d.Crash(nil)
		d.Crash([]int{1})
	}
}

func TestCrash(t *testing.T) {
	for _, c := range []struct {
		name          string
		keep          []int
		a, b, c, e, f string
	}{
		{"nothing kept", nil, "12", "", "78", "AB", ""},
		{"an empty list", []int{}, "12", "", "78", "AB", ""},
		{"one 0", []int{0}, "12", "", "78", "AB", ""},
		{"one number for all", []int{1}, "123", "6", "78", "ABC", ""},
		{"as many as the least file has", []int{2}, "1234", "", "78", "ABCD", ""},
		{"modulo one more than there are", []int{3}, "12345", "6", "78", "ABCDE", ""},
		{"modulo again", []int{4}, "12", "", "78", "ABCDEF", ""},
		{"modulo for all", []int{5}, "123", "6", "78", "AB", ""},
		{"a number for each", []int{3, 1, 4}, "12345", "6", "78", "ABCDEF", ""},
		{"a number for each, and more", []int{2, 0, 1, 9, 9}, "1234", "", "78", "ABC", ""},
		{"fewer numbers than files", []int{2, 1}, "1234", "6", "78", "ABCD", ""},
		{"negative numbers", []int{-1, -2, -3}, "12", "", "78", "AB", ""},
		{"a negative number among others", []int{1, -1, 3}, "123", "", "78", "ABCDE", ""},
		{"the least number", []int{math.MinInt}, "12", "", "78", "AB", ""},
		{"the greatest number", []int{math.MaxInt}, "12345", "6", "78", "ABCD", ""},
		{"the least and the greatest number", []int{math.MinInt, math.MaxInt}, "12", "6", "78", "AB", ""},
	} {
		d := newDisk(t, 99)
		// In another order than that of the names, and with files between them that lose nothing.
		put(t, d, "e", "AB", "CDEF")
		put(t, d, "c", "78", "")
		put(t, d, "f", "", "")
		put(t, d, "b", "", "6")
		put(t, d, "a", "12", "345")
		keep := slices.Clone(c.keep)
		d.Crash(keep)
		holds(t, c.name, d, "a", c.a, "b", c.b, "c", c.c, "e", c.e, "f", c.f)
		if !slices.Equal(keep, c.keep) {
			t.Errorf("%s: keep is changed to %v", c.name, keep)
		}
		d.Crash(nil)
		holds(t, c.name+", all of it synced", d, "a", c.a, "b", c.b, "c", c.c, "e", c.e, "f", c.f)
	}
}

func TestCrashOfAnEmptyDisk(t *testing.T) {
	d := newDisk(t, 9)
	d.Crash(nil)
	d.Crash([]int{1, 2})
	holds(t, "an empty disk", d)
}

func TestCrashDisarms(t *testing.T) {
	for _, n := range []int{0, 1} {
		d := newDisk(t, 9)
		put(t, d, "a", "1", "2")
		d.Arm(n)
		d.Crash(nil)
		for range 5 {
			want(t, "Append", d.Append("a", []byte("3")), api.OK)
		}
		holds(t, "after a crash", d, "a", "133333")
	}
}

func TestCreateAndDeleteSurviveACrash(t *testing.T) {
	d := newDisk(t, 9)
	put(t, d, "a", "12", "")
	want(t, "Delete", d.Delete("a"), api.OK)
	want(t, "Create", d.Create("b"), api.OK)
	d.Crash(nil)
	holds(t, "after a crash", d, "b", "")
}

func TestCreatedAgain(t *testing.T) {
	d := newDisk(t, 9)
	put(t, d, "a", "1234", "56")
	want(t, "Delete", d.Delete("a"), api.OK)
	holds(t, "deleted", d)
	want(t, "Append to what was deleted", d.Append("a", nil), api.ErrNone)
	want(t, "Sync of what was deleted", d.Sync("a"), api.ErrNone)
	want(t, "Delete of what was deleted", d.Delete("a"), api.ErrNone)
	want(t, "Create again", d.Create("a"), api.OK)
	holds(t, "created again", d, "a", "")
	want(t, "Create of what is there", d.Create("a"), api.ErrThere)
	want(t, "Append", d.Append("a", []byte("78")), api.OK)
	again := d.Copy()
	d.Crash([]int{1})
	holds(t, "nothing of the new file was synced", d, "a", "7")
	want(t, "Sync", again.Sync("a"), api.OK)
	again.Crash(nil)
	holds(t, "all of the new file was synced", again, "a", "78")
}

func TestCreateOfWhatIsThereChangesNothing(t *testing.T) {
	d := newDisk(t, 9)
	put(t, d, "a", "12", "3")
	want(t, "Create", d.Create("a"), api.ErrThere)
	holds(t, "before a crash", d, "a", "123")
	d.Crash(nil)
	holds(t, "after a crash", d, "a", "12")
}

func TestSyncIsOfOneFile(t *testing.T) {
	d := newDisk(t, 9)
	put(t, d, "a", "", "1")
	put(t, d, "b", "", "2")
	want(t, "Sync", d.Sync("b"), api.OK)
	d.Crash(nil)
	holds(t, "after a crash", d, "a", "", "b", "2")
}

func TestSyncIsOfWhatWasThere(t *testing.T) {
	d := newDisk(t, 9)
	put(t, d, "a", "1", "2")
	want(t, "Sync", d.Sync("a"), api.OK)
	want(t, "Append", d.Append("a", []byte("345")), api.OK)
	d.Crash([]int{2})
	holds(t, "after a crash", d, "a", "1234")
	want(t, "Append", d.Append("a", []byte("67")), api.OK)
	d.Crash([]int{1})
	holds(t, "after another crash", d, "a", "12346")
}

func TestCopyIsIndependent(t *testing.T) {
	d := newDisk(t, 9)
	put(t, d, "a", "12", "34")
	put(t, d, "b", "5", "")
	again := d.Copy()
	holds(t, "a copy", again, "a", "1234", "b", "5")
	// One after the other, at the same place: a shared array would show.
	want(t, "Append", d.Append("a", []byte("67")), api.OK)
	want(t, "Append", again.Append("a", []byte("89")), api.OK)
	want(t, "Delete", d.Delete("b"), api.OK)
	want(t, "Create", again.Create("c"), api.OK)
	holds(t, "the disk", d, "a", "123467")
	holds(t, "the copy", again, "a", "123489", "b", "5", "c", "")
	want(t, "Sync", again.Sync("a"), api.OK)
	d.Room(2)
	d.Arm(0)
	want(t, "Sync", d.Sync("a"), api.ErrDead)
	want(t, "Append", again.Append("b", []byte("0")), api.OK)
	d.Crash(nil)
	again.Crash(nil)
	holds(t, "the disk", d, "a", "12")
	holds(t, "the copy", again, "a", "123489", "b", "5", "c", "")
}

func TestCopyHasTheSameState(t *testing.T) {
	d := newDisk(t, 5)
	put(t, d, "a", "12", "34")
	d.Arm(1)
	again := d.Copy()
	want(t, "Append of too much", again.Append("a", []byte("56")), api.ErrFull)
	want(t, "Append with 1", again.Append("a", []byte("5")), api.OK)
	want(t, "Append with 0", again.Append("a", nil), api.ErrDead)
	if !again.Dead() || d.Dead() {
		t.Errorf("dead: %v and %v", again.Dead(), d.Dead())
	}
	dead := again.Copy()
	if !dead.Dead() || dead.Used() != 5 {
		t.Errorf("Dead: %v, Used: %d", dead.Dead(), dead.Used())
	}
	dead.Crash([]int{2})
	holds(t, "a copy of a dead disk", dead, "a", "1234")
	if !again.Dead() {
		t.Error("a crash of a copy is one of the disk")
	}
}

func TestNothingIsShared(t *testing.T) {
	d := newDisk(t, 99)
	want(t, "Create", d.Create("a"), api.OK)
	b := []byte("123456")
	want(t, "Append", d.Append("a", b[:4]), api.OK)
	want(t, "Append", d.Append("a", b[:1]), api.OK)
	if string(b) != "123456" {
		t.Errorf("Append changes its argument to %q", b)
	}
	for i := range b {
		b[i] = 'x'
	}
	holds(t, "after a change of the argument", d, "a", "12341")
	first, _ := d.Read("a")
	for i := range first[:cap(first)] {
		first[:cap(first)][i] = 'y'
	}
	want(t, "Append", d.Append("a", []byte("5")), api.OK)
	holds(t, "after a change of a result", d, "a", "123415")
	second, _ := d.Read("a")
	_ = append(second[:2], "zz"...)
	holds(t, "after an append to a result", d, "a", "123415")
	d.Crash(nil)
	want(t, "Append", d.Append("a", []byte("vwxyz")), api.OK)
	if string(second) != "12zz15" {
		t.Errorf("a result is changed to %q", second)
	}
	l := d.List()
	l[0] = "other"
	holds(t, "after a change of the names", d, "a", "vwxyz")
}

func TestDisksAreIndependent(t *testing.T) {
	d, other := newDisk(t, 9), newDisk(t, 9)
	put(t, d, "a", "1", "2")
	d.Arm(0)
	want(t, "Sync", d.Sync("a"), api.ErrDead)
	holds(t, "the other disk", other)
}

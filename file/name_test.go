package file

import (
	"fmt"
	"math"
	"strings"
	"testing"
)

// ends are numbers in and out of the ranges of parts and ids, many of them just so.
func ends() []int {
	return []int{
		math.MinInt, math.MinInt + 1, -1 << 32, -1 << 30, -10, -4, -3, -2, -1, 0, 1, 2, 3, 4, 5, 9, 10, 11, 19, 20, 99, 100, 101, 1000,
		1<<30 - 1, 1 << 30, 1<<30 + 1, 1 << 31, 1<<32 - 1, 1 << 32, 1<<32 + 1, 1<<32 + 3, 1 << 40, math.MaxInt - 1, math.MaxInt,
	}
}

// wantParse checks that Parse returns this part and this id.
func wantParse(t testing.TB, name string, part, id int) {
	t.Helper()
	if p, i, ok := Parse(name); p != part || i != id || !ok {
		t.Errorf("Parse of %q: %d, %d, %t, not %d, %d", name, p, i, ok, part, id)
	}
}

// wantNoParse checks that Parse returns nothing.
func wantNoParse(t testing.TB, name string) {
	t.Helper()
	if p, i, ok := Parse(name); p != 0 || i != 0 || ok {
		t.Errorf("Parse of %q: %d, %d, %t", name, p, i, ok)
	}
}

func TestNames(t *testing.T) {
	for _, c := range []struct {
		part, id int
		name     string
	}{
		{1, 20, "s1-20"}, {0, 1, "s0-1"}, {3, 1 << 30, "s3-1073741824"}, {0, 0, "s0-0"}, {3, 0, "s3-0"}, {4, 1, "s4-1"},
		{-1, 5, "s-1-5"}, {2, -5, "s2--5"}, {-1, -20, "s-1--20"}, {10, 1<<30 + 1, "s10-1073741825"},
		{math.MinInt, math.MaxInt, "s-9223372036854775808-9223372036854775807"},
		{math.MaxInt, math.MinInt, "s9223372036854775807--9223372036854775808"},
	} {
		if name := Name(c.part, c.id); name != c.name {
			t.Errorf("Name of %d, %d: %q, not %q", c.part, c.id, name, c.name)
		}
	}
}

// TestNamesOfEnds has all pairs of ends: Parse takes the names of those in the ranges.
func TestNamesOfEnds(t *testing.T) {
	names := map[string]bool{}
	for _, part := range ends() {
		for _, id := range ends() {
			name := Name(part, id)
			if want := fmt.Sprintf("s%d-%d", part, id); name != want || names[name] {
				t.Errorf("Name of %d, %d: %q, not %q, or not for the first time", part, id, name, want)
			}
			names[name] = true
			if part >= 0 && part <= 3 && id >= 1 && id <= 1<<30 {
				wantParse(t, name, part, id)
			} else {
				wantNoParse(t, name)
			}
		}
	}
}

func TestParse(t *testing.T) {
	for part := range 4 {
		for id := 1; id < 2000; id++ {
			wantParse(t, fmt.Sprintf("s%d-%d", part, id), part, id)
		}
		for bit := range 31 {
			wantParse(t, fmt.Sprintf("s%d-%d", part, 1<<bit), part, 1<<bit)
		}
	}
	wantParse(t, "s0-1", 0, 1)
	wantParse(t, "s1-20", 1, 20)
	wantParse(t, "s3-1073741823", 3, 1<<30-1)
	wantParse(t, "s3-1073741824", 3, 1<<30)
}

func TestParseOfOtherNames(t *testing.T) {
	for _, name := range []string{
		"", "s", "-", "s-", "s1", "s1-", "s-1", "1-20", "-20", "-1-20", "s120", "s1_20", "s1 20", "s1:20", "s1–20", "s1−20",
		"S1-20", "j1-20", "j1", "t1-20", "ss1-20", "s1-20s", "1-20s", "1s-20", "s1s-20", "1-s20", "s1-s20", "s1-20s1-20",
		"s01-20", "s00-20", "s1-020", "s1-00", "s01-020", "s1-01", "s1-0000000001",
		"s+1-20", "s1-+20", "+s1-20", "s-1-20", "s1--20", "s1---20", "s-0-1", "s0--0", "s0-+0", "-s1-20", "s-1--20", "s1-20-", "s1-20+", "s1-2-0", "s1-20-3", "s--1-20",
		" s1-20", "s1-20 ", "s 1-20", "s1 -20", "s1- 20", "s1-2 0", "\ts1-20", "s1-20\n", "s1-20\r", "\x00s1-20", "s1-20\x00", "s1\x00-20", "s1-2\x000",
		"s4-20", "s5-1", "s9-1", "s10-1", "s11-20", "s4294967296-1", "s4294967297-1", "s18446744073709551616-1", "s18446744073709551617-1",
		"s1-0", "s0-0", "s1-1073741825", "s1-1073741834", "s1-2147483648", "s1-2147483649", "s1-4294967295", "s1-4294967296", "s1-4294967297", "s1-10737418240",
		"s1-9223372036854775807", "s1-9223372036854775808", "s1-18446744073709551615", "s1-18446744073709551616", "s1-18446744073709551617", "s1-18446744073709551636",
		"s9223372036854775807-1", "s9223372036854775808-1", "s18446744073709551617-18446744073709551636", "s1-" + strings.Repeat("9", 400), "s" + strings.Repeat("1", 400) + "-1",
		"s1-" + strings.Repeat("0", 400) + "1", "s" + strings.Repeat("-", 400) + "1",
		"s1-0x14", "s0x1-20", "s1-0b1", "s1-0o7", "s1-1e1", "s1-1.0", "s1.0-20", "s1-2_0", "s1-a", "sa-1", "s1-20a", "s1-a20", "s٠-١", "s1-٢", "s１-20", "\xffs1-20", "s1-20\xff", "s\xff-1",
	} {
		wantNoParse(t, name)
	}
}

// TestParseOfShortNames has all names of up to six of some signs.
func TestParseOfShortNames(t *testing.T) {
	numbers := map[string][2]int{}
	for part := range 4 {
		for id := 1; id < 1000; id++ {
			numbers[fmt.Sprintf("s%d-%d", part, id)] = [2]int{part, id}
		}
	}
	taken := 0
	var each func(name string, more int)
	each = func(name string, more int) {
		if n, there := numbers[name]; there {
			wantParse(t, name, n[0], n[1])
			taken++
		} else {
			wantNoParse(t, name)
		}
		if more == 0 {
			return
		}
		for _, sign := range []string{"s", "-", "+", " ", "0", "1", "3", "4"} {
			each(name+sign, more-1)
		}
	}
	each("", 6)
	// The parts are 0, 1 and 3, and the ids have one to three digits, the first of which is not 0.
	if taken != 3*(3+3*4+3*4*4) {
		t.Errorf("%d names", taken)
	}
}

func FuzzParse(f *testing.F) {
	for _, name := range []string{"s1-20", "s3-1073741824", "s01-2", "s1--2", "j5", ""} {
		f.Add(name)
	}
	f.Fuzz(func(t *testing.T, name string) {
		part, id, ok := Parse(name)
		if !ok {
			wantNoParse(t, name)
			return
		}
		if part < 0 || part > 3 || id < 1 || id > 1<<30 || name != fmt.Sprintf("s%d-%d", part, id) {
			t.Errorf("Parse of %q: %d, %d", name, part, id)
		}
	})
}

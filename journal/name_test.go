package journal

import (
	"fmt"
	"math"
	"strings"
	"testing"
)

// wantParse checks that Parse returns this number.
func wantParse(t testing.TB, name string, no int) {
	t.Helper()
	if n, ok := Parse(name); n != no || !ok {
		t.Errorf("Parse of %q: %d, %t, not %d", name, n, ok, no)
	}
}

// wantNoParse checks that Parse returns nothing.
func wantNoParse(t testing.TB, name string) {
	t.Helper()
	if n, ok := Parse(name); n != 0 || ok {
		t.Errorf("Parse of %q: %d, %t", name, n, ok)
	}
}

func TestNames(t *testing.T) {
	for _, c := range []struct {
		no   int
		name string
	}{
		{0, "j0"}, {1, "j1"}, {9, "j9"}, {10, "j10"}, {300, "j300"}, {1<<30 - 1, "j1073741823"}, {1 << 30, "j1073741824"}, {1<<30 + 1, "j1073741825"},
		{-1, "j-1"}, {-300, "j-300"}, {-1 << 30, "j-1073741824"}, {math.MinInt, "j-9223372036854775808"}, {math.MaxInt, "j9223372036854775807"},
	} {
		if name := Name(c.no); name != c.name {
			t.Errorf("Name of %d: %q, not %q", c.no, name, c.name)
		}
	}
}

// TestParseOfNames has names of numbers in and out of the range.
func TestParseOfNames(t *testing.T) {
	var numbers []int
	for n := -2000; n < 2000; n++ {
		numbers = append(numbers, n, 1<<30+n, 1<<31+n, 1<<32+n, -1<<30+n, -1<<32+n)
	}
	for bit := range 63 {
		numbers = append(numbers, 1<<bit, -1<<bit, 1<<bit-1)
	}
	for digits := 1; digits < 1<<60; digits *= 10 {
		numbers = append(numbers, digits, digits+1, digits-1)
	}
	for _, no := range append(numbers, math.MinInt, math.MinInt+1, math.MaxInt-1, math.MaxInt) {
		name := Name(no)
		if want := fmt.Sprintf("j%d", no); name != want {
			t.Errorf("Name of %d: %q, not %q", no, name, want)
		}
		if no >= 1 && no <= 1<<30 {
			wantParse(t, name, no)
		} else {
			wantNoParse(t, name)
		}
	}
	wantParse(t, "j1", 1)
	wantParse(t, "j1073741824", 1<<30)
}

func TestParseOfOtherNames(t *testing.T) {
	for _, name := range []string{
		"", "j", "0", "1", "5", "12", "J1", "s1", "s1-20", "s0-1", "i1", "k1", "a1", "jj1", "jj", "j1j", "1j", "j1a", "ja1", "ja", "j1 j2", "j1j2", "journal1",
		"j01", "j001", "j010", "j00", "j0000000001", "j01073741824", "j+1", "j-1", "j--1", "j-0", "j+0", "+j1", "-j1", "j1-", "j1+", "j1-1", "j-1-1",
		" j1", "j 1", "j1 ", "j1 2", "j ", " ", "\tj1", "j\t1", "j1\n", "j1\r\n", "\nj1", "j1\x00", "j\x001", "\x00j1", "j1\x002",
		"j0", "j1073741825", "j1073741826", "j1073741834", "j10737418240", "j2147483647", "j2147483648", "j2147483649", "j4294967295", "j4294967296", "j4294967297",
		"j9223372036854775807", "j9223372036854775808", "j9223372036854775809", "j18446744073709551615", "j18446744073709551616", "j18446744073709551617",
		"j" + strings.Repeat("9", 400), "j" + strings.Repeat("0", 400) + "1", "j1" + strings.Repeat("0", 400), strings.Repeat("j", 400) + "1", "j" + strings.Repeat("-", 400) + "1",
		"j-9223372036854775808", "j-9223372036854775809", "j-18446744073709551615",
		"j0x1", "j0X1", "j0b1", "j0o1", "j1e1", "j1.0", "j1_0", "j1,000", "j1.", "j.1", "j٢", "j１", "ｊ1", "\xffj1", "j1\xff", "j\xff", "ĵ1",
	} {
		wantNoParse(t, name)
	}
}

// TestParseOfShortNames has all names of up to six of some signs.
func TestParseOfShortNames(t *testing.T) {
	numbers := map[string]int{}
	for no := 1; no < 100000; no++ {
		numbers[fmt.Sprintf("j%d", no)] = no
	}
	taken := 0
	var each func(name string, more int)
	each = func(name string, more int) {
		if no, there := numbers[name]; there {
			wantParse(t, name, no)
			taken++
		} else {
			wantNoParse(t, name)
		}
		if more == 0 {
			return
		}
		for _, sign := range []string{"j", "s", "-", "+", " ", "0", "1", "9"} {
			each(name+sign, more-1)
		}
	}
	each("", 6)
	// One to five digits of three, the first of which is not 0.
	if taken != 2*(1+3+9+27+81) {
		t.Errorf("%d names", taken)
	}
}

func FuzzParse(f *testing.F) {
	for _, name := range []string{"j1", "j1073741824", "j1073741825", "j01", "j-1", "s1-20", ""} {
		f.Add(name)
	}
	f.Fuzz(func(t *testing.T, name string) {
		no, ok := Parse(name)
		if !ok {
			wantNoParse(t, name)
			return
		}
		if no < 1 || no > 1<<30 || name != fmt.Sprintf("j%d", no) {
			t.Errorf("Parse of %q: %d", name, no)
		}
	})
}

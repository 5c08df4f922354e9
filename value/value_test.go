package value

import (
	"math"
	"strings"
	"testing"

	"winnower/api"
)

func null() api.Value          { return api.Value{Kind: api.Null} }
func integer(n int) api.Value  { return api.Value{Kind: api.Int, I: n} }
func str(s string) api.Value   { return api.Value{Kind: api.Str, S: s} }
func boolean(b bool) api.Value { return api.Value{Kind: api.Bool, B: b} }
func letters(count int) string { return strings.Repeat("x", count) }
func isZero(v api.Value) bool  { return v == api.Value{} }
func knownKinds() []int        { return []int{api.Null, api.Int, api.Str, api.Bool} }
func unknownKinds() []int      { return []int{math.MinInt, -256, -2, -1, 4, 5, 256, 257, math.MaxInt} }

func withKind(v api.Value, kind int) api.Value {
	v.Kind = kind
	return v
}

// rising are valid values of every kind, each before the next one.
func rising() []api.Value {
	l := []api.Value{null()}
	for _, n := range []int{
		math.MinInt, math.MinInt + 1, -1 << 62, -8193, -8192, -65, -64, -2, -1,
		0, 1, 2, 63, 64, 8191, 8192, 1<<31 - 1, 1 << 31, 1 << 32, 1 << 53, 1<<53 + 1, 1 << 62, math.MaxInt - 1, math.MaxInt,
	} {
		l = append(l, integer(n))
	}
	for _, s := range []string{
		"", "\x00", "\x00\x00", strings.Repeat("\x00", 63) + "\x01", "\x00\x01", "\x01", " ", "1", "10", "2", "A", "B", "Z", "_",
		"a", "a\x00", "a\x00b", "aa", "ab", "abc", "ac", "a\x7f", "a\x80", "a\xff", "b", letters(63), letters(64), letters(62) + "y", "y",
		"\x7f", "\x7f\xff", "\x80", "\x80\x00", "é", "é ", "\xe0", "日本", "\xf0\x9f\x98\x80", "\xfe\xff", "\xff", "\xff\x00", "\xff\xff", strings.Repeat("\xff", 64),
	} {
		l = append(l, str(s))
	}
	return append(l, boolean(false), boolean(true))
}

// noises are contents of the fields that may be laid under a value.
func noises() []api.Value {
	return []api.Value{
		{}, {I: 1}, {I: -1}, {I: math.MinInt}, {I: math.MaxInt}, {S: "a"}, {S: "\x00"}, {S: "\xff"}, {S: letters(65)}, {B: true},
		{I: 5, S: "b"}, {I: -5, B: true}, {S: "zz", B: true}, {I: 7, S: letters(64), B: true},
	}
}

// noisy is v with the fields of other kinds taken from noise.
func noisy(v, noise api.Value) api.Value {
	out := withKind(noise, v.Kind)
	switch v.Kind {
	case api.Int:
		out.I = v.I
	case api.Str:
		out.S = v.S
	case api.Bool:
		out.B = v.B
	}
	return out
}

func TestMayOfValidValues(t *testing.T) {
	for _, v := range rising() {
		if !May(v) {
			t.Errorf("%#v may not be", v)
		}
	}
}

func TestMayOfZeroValue(t *testing.T) {
	if !May(api.Value{}) {
		t.Errorf("the zero value, which is Null, may not be")
	}
}

func TestMayCountsBytesOfStrings(t *testing.T) {
	for _, c := range []struct {
		s  string
		ok bool
	}{
		{"", true}, {letters(1), true}, {letters(63), true}, {letters(64), true},
		{letters(65), false}, {letters(66), false}, {letters(128), false}, {letters(100000), false},
		{strings.Repeat("é", 32), true}, {strings.Repeat("é", 33), false}, {strings.Repeat("é", 64), false},
		{strings.Repeat("\x00", 64), true}, {strings.Repeat("\x00", 65), false},
		{strings.Repeat("\xff", 64), true}, {strings.Repeat("\xff", 65), false},
	} {
		if got := May(str(c.s)); got != c.ok {
			t.Errorf("May of a string of %d bytes, %.9q: %v", len(c.s), c.s, got)
		}
	}
}

func TestMayOfUnknownKinds(t *testing.T) {
	for _, kind := range unknownKinds() {
		for _, v := range append(rising(), noises()...) {
			if May(withKind(v, kind)) {
				t.Errorf("%#v may be", withKind(v, kind))
			}
		}
	}
}

func TestMayRefusesFieldsOfOtherKinds(t *testing.T) {
	for _, v := range []api.Value{
		{Kind: api.Null, I: 1}, {Kind: api.Null, I: -1}, {Kind: api.Null, S: "a"}, {Kind: api.Null, S: "\x00"}, {Kind: api.Null, B: true},
		{Kind: api.Int, S: "a"}, {Kind: api.Int, I: 5, S: "a"}, {Kind: api.Int, B: true}, {Kind: api.Int, I: 5, B: true},
		{Kind: api.Str, I: 1}, {Kind: api.Str, S: "a", I: 1}, {Kind: api.Str, B: true}, {Kind: api.Str, S: "a", B: true},
		{Kind: api.Str, S: letters(64), I: math.MinInt}, {Kind: api.Str, S: letters(65), I: 1},
		{Kind: api.Bool, I: 1}, {Kind: api.Bool, B: true, I: 1}, {Kind: api.Bool, S: "a"}, {Kind: api.Bool, B: true, S: "a"},
	} {
		if May(v) {
			t.Errorf("%#v may be", v)
		}
	}
	for _, v := range rising() {
		for _, noise := range noises() {
			if w := noisy(v, noise); May(w) != (w == v) {
				t.Errorf("May of %#v: %v", w, May(w))
			}
		}
	}
}

func TestOrderExamples(t *testing.T) {
	for _, c := range []struct {
		a, b api.Value
		want int
	}{
		{integer(5), str("a"), -1}, {str("a"), integer(5), 1},
		{null(), null(), 0}, {null(), integer(math.MinInt), -1}, {integer(math.MaxInt), str(""), -1}, {str(strings.Repeat("\xff", 64)), boolean(false), -1},
		{integer(-1), integer(1), -1}, {integer(2), integer(10), -1}, {integer(7), integer(7), 0},
		{integer(math.MinInt), integer(math.MaxInt), -1}, {integer(math.MaxInt), integer(math.MinInt), 1},
		{str("2"), str("10"), 1}, {str("a"), str("ab"), -1}, {str("ab"), str("a"), 1}, {str(""), str("\x00"), -1}, {str("ab"), str("ab"), 0},
		{str("\x7f"), str("\x80"), -1}, {str("z"), str("é"), -1}, {str("\xff"), str("a"), 1}, {str("Z"), str("a"), -1},
		{boolean(false), boolean(true), -1}, {boolean(true), boolean(false), 1}, {boolean(true), boolean(true), 0}, {boolean(false), boolean(false), 0},
	} {
		if got := Order(c.a, c.b); got != c.want {
			t.Errorf("Order of %#v and %#v: %d, not %d", c.a, c.b, got, c.want)
		}
	}
}

// signOf tells how numbers are ordered.
func signOf(i, k int) int {
	switch {
	case i < k:
		return -1
	case i > k:
		return 1
	}
	return 0
}

// Places in one list tell that the order is total, and that only equal values are equal in it.
func TestOrderIsTotal(t *testing.T) {
	l := rising()
	for i, a := range l {
		for k, b := range l {
			if got := Order(a, b); got != signOf(i, k) {
				t.Errorf("Order of %#v and %#v: %d, not %d", a, b, got, signOf(i, k))
			}
			if (Order(a, b) == 0) != (a == b) {
				t.Errorf("Order of %#v and %#v: %d", a, b, Order(a, b))
			}
		}
	}
}

func TestOrderIgnoresFieldsOfOtherKinds(t *testing.T) {
	l := rising()
	for i, a := range l {
		for k, b := range l {
			for n, noise := range noises() {
				other := noises()[len(noises())-1-n]
				if got := Order(noisy(a, noise), noisy(b, other)); got != signOf(i, k) {
					t.Fatalf("Order of %#v and %#v: %d, not %d", noisy(a, noise), noisy(b, other), got, signOf(i, k))
				}
			}
		}
	}
}

func TestOrderOfLongStrings(t *testing.T) {
	for _, c := range []struct {
		a, b string
		want int
	}{
		{letters(64), letters(65), -1}, {letters(65), letters(65), 0}, {letters(65), letters(64), 1},
		{letters(64) + "a", letters(64) + "b", -1}, {letters(1000) + "\x80", letters(1000) + "z", 1},
	} {
		if got := Order(str(c.a), str(c.b)); got != c.want {
			t.Errorf("Order of strings of %d and %d bytes: %d, not %d", len(c.a), len(c.b), got, c.want)
		}
	}
}

// A value of an unknown kind has no field that counts: its kind alone orders it.
func TestOrderOfUnknownKinds(t *testing.T) {
	kinds := []int{math.MinInt, -2, -1, api.Null, api.Int, api.Str, api.Bool, 4, 5, math.MaxInt}
	for i, a := range kinds {
		for k, b := range kinds {
			for _, noise := range noises() {
				if i == k && a >= api.Null && a <= api.Bool {
					continue
				}
				if got := Order(withKind(noise, a), withKind(api.Value{I: 3, S: "c"}, b)); got != signOf(i, k) {
					t.Errorf("Order of kinds %d and %d: %d, not %d", a, b, got, signOf(i, k))
				}
			}
		}
	}
}

func FuzzOrder(f *testing.F) {
	f.Add(1, 5, "", false, 2, 0, "a", false)
	f.Add(2, 1, "ab", true, 2, 0, "a\xff", false)
	f.Add(3, 1, "b", true, 3, 2, "", false)
	f.Add(4, 1, "b", true, 4, 2, "", false)
	f.Fuzz(func(t *testing.T, k int, i int, s string, b bool, kind int, n int, text string, truth bool) {
		x, y := api.Value{Kind: k, I: i, S: s, B: b}, api.Value{Kind: kind, I: n, S: text, B: truth}
		if Order(x, y) != -Order(y, x) || Order(x, x) != 0 || Order(y, y) != 0 {
			t.Errorf("Order of %#v and %#v: %d and %d", x, y, Order(x, y), Order(y, x))
		}
		if May(x) && May(y) && (Order(x, y) == 0) != (x == y) {
			t.Errorf("Order of %#v and %#v: %d", x, y, Order(x, y))
		}
	})
}

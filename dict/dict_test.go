package dict

import (
	"math"
	"slices"
	"strings"
	"testing"

	"winnower/api"
	"winnower/value"
)

func null() api.Value          { return api.Value{Kind: api.Null} }
func integer(n int) api.Value  { return api.Value{Kind: api.Int, I: n} }
func str(s string) api.Value   { return api.Value{Kind: api.Str, S: s} }
func boolean(b bool) api.Value { return api.Value{Kind: api.Bool, B: b} }
func letters(count int) string { return strings.Repeat("x", count) }

func integers(l ...int) []api.Value {
	var out []api.Value
	for _, n := range l {
		out = append(out, integer(n))
	}
	return out
}

// rising are valid values of all four kinds, each before the next one.
func rising() []api.Value {
	l := append([]api.Value{null()}, integers(math.MinInt, -65, -1, 0, 1, 2, 63, 64, 1<<53, 1<<53+1, math.MaxInt)...)
	for _, s := range []string{
		"", "\x00", "\x00\x00", "1", "10", "2", "A", "a", "a\x00", "aa", "b", letters(63), letters(64), "é", "\xff", "\xff\xff",
	} {
		l = append(l, str(s))
	}
	return append(l, boolean(false), boolean(true))
}

// invalid are values that are not valid. Most of them differ from a valid one by one field.
func invalid() []api.Value {
	return []api.Value{
		{Kind: -1}, {Kind: 4}, {Kind: math.MinInt}, {Kind: math.MaxInt}, {Kind: 4, I: 7},
		{I: 1}, {S: "a"}, {B: true},
		{Kind: api.Int, I: 7, S: "a"}, {Kind: api.Int, I: 7, B: true}, {Kind: api.Int, S: "a"}, {Kind: api.Int, B: true},
		{Kind: api.Str, S: "a", I: 1}, {Kind: api.Str, S: "a", B: true}, {Kind: api.Str, I: 1}, {Kind: api.Str, S: letters(65)},
		{Kind: api.Bool, B: true, I: 1}, {Kind: api.Bool, B: true, S: "a"}, {Kind: api.Bool, I: 1},
	}
}

// shuffled is a copy of l in an order that depends on seed alone, and that neither rises nor falls.
func shuffled(l []api.Value, seed int) []api.Value {
	out := slices.Clone(l)
	state := uint64(seed)
	for i := len(out) - 1; i > 0; i-- {
		state = state*6364136223846793005 + 1442695040888963407
		other := int((state >> 33) % uint64(i+1))
		out[i], out[other] = out[other], out[i]
	}
	return out
}

// filled is a dictionary with the values l, none of which it refuses, and none of which it has twice.
func filled(t *testing.T, limit int, l []api.Value) *Dict {
	t.Helper()
	d := New(limit)
	for i, v := range l {
		wantAdd(t, d, v, i, api.OK)
	}
	return d
}

func wantAdd(t *testing.T, d *Dict, v api.Value, number int, e api.Errno) {
	t.Helper()
	if n, f := d.Add(v); n != number || f != e {
		t.Fatalf("Add of %#v: %d, error %d, not %d, error %d", v, n, f, number, e)
	}
}

func wantFind(t *testing.T, d *Dict, v api.Value, number int, there bool) {
	t.Helper()
	if n, ok := d.Find(v); n != number || ok != there {
		t.Fatalf("Find of %#v: %d, %t, not %d, %t", v, n, ok, number, there)
	}
}

func wantSorted(t *testing.T, d *Dict, values []api.Value, indices []int) {
	t.Helper()
	if l, is := d.Sorted(); !slices.Equal(l, values) || !slices.Equal(is, indices) {
		t.Fatalf("Sorted: %#v and %v, not %#v and %v", l, is, values, indices)
	}
}

// wantAll checks that d consists of l, whose elements have their indices as numbers.
func wantAll(t *testing.T, d *Dict, l []api.Value) {
	t.Helper()
	if n := d.Len(); n != len(l) {
		t.Fatalf("Len: %d, not %d", n, len(l))
	}
	for i, v := range l {
		wantFind(t, d, v, i, true)
		if w, ok := d.At(i); w != v || !ok {
			t.Fatalf("At %d: %#v, %t, not %#v", i, w, ok, v)
		}
	}
	for _, i := range []int{math.MinInt, -4096, -2, -1, len(l), len(l) + 1, 4097, math.MaxInt} {
		if w, ok := d.At(i); w != (api.Value{}) || ok {
			t.Fatalf("At %d of %d values: %#v, %t", i, len(l), w, ok)
		}
	}
	for _, v := range invalid() {
		wantFind(t, d, v, 0, false)
	}
	wantSorted(t, d, sorted(l), ranks(l))
}

// sorted are the different values of l, each placed behind all that are before it.
func sorted(l []api.Value) []api.Value {
	var out []api.Value
	for _, v := range different(l) {
		i := 0
		for i < len(out) && value.Order(out[i], v) < 0 {
			i++
		}
		out = slices.Insert(out, i, v)
	}
	return out
}

// different is l, each value once.
func different(l []api.Value) []api.Value {
	var out []api.Value
	for _, v := range l {
		if !slices.Contains(out, v) {
			out = append(out, v)
		}
	}
	return out
}

// ranks are, for each of the values l, which are all different, how many of them are before it.
func ranks(l []api.Value) []int {
	var out []int
	for _, v := range l {
		before := 0
		for _, w := range l {
			if value.Order(w, v) < 0 {
				before++
			}
		}
		out = append(out, before)
	}
	return out
}

func TestExample(t *testing.T) {
	d := New(10)
	wantAdd(t, d, integer(7), 0, api.OK)
	wantAdd(t, d, integer(3), 1, api.OK)
	wantAdd(t, d, integer(7), 0, api.OK)
	wantSorted(t, d, integers(3, 7), []int{1, 0})
}

func TestNewIsEmpty(t *testing.T) {
	for _, limit := range []int{math.MinInt, -1, 0, 1, 2, 4096, 4097, math.MaxInt} {
		d := New(limit)
		if d == nil {
			t.Fatalf("New of %d: nil", limit)
		}
		wantAll(t, d, nil)
		for _, v := range rising() {
			wantFind(t, d, v, 0, false)
		}
	}
}

func TestLimit(t *testing.T) {
	for _, c := range []struct{ limit, room int }{
		{math.MinInt, 0}, {-4096, 0}, {-1, 0}, {0, 0}, {1, 1}, {2, 2}, {3, 3}, {255, 255}, {256, 256}, {257, 257},
		{4095, 4095}, {4096, 4096}, {4097, 4096}, {65536, 4096}, {math.MaxInt, 4096},
	} {
		d := New(c.limit)
		for i := range c.room {
			wantAdd(t, d, integer(i*3), i, api.OK)
		}
		for _, v := range []api.Value{integer(c.room * 3), integer(-1), null(), str("a"), boolean(false)} {
			wantAdd(t, d, v, 0, api.ErrFull)
			wantFind(t, d, v, 0, false)
		}
		if n := d.Len(); n != c.room {
			t.Errorf("limit %d: %d values", c.limit, n)
		}
	}
}

func TestLimitCountsValuesOfAllKinds(t *testing.T) {
	l := []api.Value{boolean(true), str(""), null(), integer(0)}
	for limit := range len(l) {
		d := filled(t, limit, l[:limit])
		for _, v := range l[limit:] {
			wantAdd(t, d, v, 0, api.ErrFull)
		}
		wantAll(t, d, l[:limit])
	}
}

func TestAddAgainCostsNoRoom(t *testing.T) {
	d := New(2)
	for range 5 {
		wantAdd(t, d, str("a"), 0, api.OK)
	}
	wantAdd(t, d, str("b"), 1, api.OK)
	wantAdd(t, d, str("c"), 0, api.ErrFull)
}

func TestAddOfInvalidValues(t *testing.T) {
	d := filled(t, 100, []api.Value{integer(7), str("a"), boolean(true)})
	for _, v := range invalid() {
		wantAdd(t, d, v, 0, api.ErrArg)
	}
	wantAll(t, d, []api.Value{integer(7), str("a"), boolean(true)})
	wantAdd(t, d, null(), 3, api.OK)
}

func TestAddToFull(t *testing.T) {
	l := []api.Value{str("a"), integer(7), boolean(true)}
	d := filled(t, 3, l)
	for range 2 {
		for i, v := range l {
			wantAdd(t, d, v, i, api.OK)
		}
		for _, v := range []api.Value{null(), integer(0), integer(8), str(""), str("b"), boolean(false)} {
			wantAdd(t, d, v, 0, api.ErrFull)
			wantFind(t, d, v, 0, false)
		}
		for _, v := range invalid() {
			wantAdd(t, d, v, 0, api.ErrArg)
		}
		wantAll(t, d, l)
	}
}

func TestNumbersFollowFirstAdd(t *testing.T) {
	for seed := range 20 {
		l := shuffled(rising(), seed)
		d := New(100)
		for i, v := range l {
			wantAdd(t, d, v, i, api.OK)
			for k, earlier := range l[:i] {
				wantAdd(t, d, earlier, k, api.OK)
			}
			wantAll(t, d, l[:i+1])
			for _, later := range l[i+1:] {
				wantFind(t, d, later, 0, false)
			}
		}
	}
}

func TestValuesThatLookAlikeDiffer(t *testing.T) {
	l := []api.Value{integer(0), boolean(false), str(""), null(), str("0"), integer(1), boolean(true), str("1"), str("\x00"), str("a"), str("A"), str("a\x00")}
	wantAll(t, filled(t, len(l), l), l)
}

func TestFindDoesNotAdd(t *testing.T) {
	d := New(1)
	wantFind(t, d, integer(7), 0, false)
	wantFind(t, d, integer(7), 0, false)
	wantAll(t, d, nil)
	wantAdd(t, d, integer(8), 0, api.OK)
	wantFind(t, d, integer(8), 0, true)
}

func TestNil(t *testing.T) {
	var d *Dict
	for _, v := range rising() {
		wantAdd(t, d, v, 0, api.ErrFull)
		wantFind(t, d, v, 0, false)
	}
	for _, v := range invalid() {
		wantAdd(t, d, v, 0, api.ErrArg)
	}
	wantAdd(t, d, api.Value{}, 0, api.ErrFull)
	wantAll(t, d, nil)
}

func TestZeroDictDoesNotPanic(t *testing.T) {
	var d Dict
	d.Add(integer(7))
	d.Add(api.Value{Kind: 9})
	d.Find(integer(7))
	d.At(0)
	d.Len()
	d.Sorted()
}

func TestDictsAreIndependent(t *testing.T) {
	a, b := New(5), New(5)
	wantAdd(t, a, integer(1), 0, api.OK)
	wantAdd(t, b, integer(2), 0, api.OK)
	wantAdd(t, b, integer(1), 1, api.OK)
	wantAll(t, a, integers(1))
	wantAll(t, b, integers(2, 1))
}

func TestSortedOfEmpty(t *testing.T) {
	wantSorted(t, New(0), nil, nil)
	wantSorted(t, New(5), nil, nil)
}

func TestSortedOfOne(t *testing.T) {
	for _, v := range rising() {
		wantSorted(t, filled(t, 1, []api.Value{v}), []api.Value{v}, []int{0})
	}
}

func TestSortedOfAllKinds(t *testing.T) {
	d := filled(t, 100, []api.Value{boolean(true), str("b"), integer(5), null(), str("a"), boolean(false), integer(-5), str("")})
	want := []api.Value{null(), integer(-5), integer(5), str(""), str("a"), str("b"), boolean(false), boolean(true)}
	wantSorted(t, d, want, []int{7, 5, 2, 0, 4, 6, 1, 3})
}

func TestSortedOfFallingAndRising(t *testing.T) {
	wantSorted(t, filled(t, 9, integers(4, 3, 2, 1)), integers(1, 2, 3, 4), []int{3, 2, 1, 0})
	wantSorted(t, filled(t, 9, integers(1, 2, 3, 4)), integers(1, 2, 3, 4), []int{0, 1, 2, 3})
	// Indices and numbers are each other's inverse, which only a cycle of three shows.
	wantSorted(t, filled(t, 9, integers(20, 30, 10)), integers(10, 20, 30), []int{1, 2, 0})
}

func TestSortedIsWhatIsThere(t *testing.T) {
	for seed := range 50 {
		l := shuffled(rising(), seed)
		d := filled(t, len(l), l)
		values, indices := d.Sorted()
		if !slices.Equal(values, rising()) || !Rises(values) || len(indices) != len(l) {
			t.Fatalf("seed %d: %#v", seed, values)
		}
		for number, i := range indices {
			if v, ok := d.At(number); !ok || values[i] != v {
				t.Fatalf("seed %d: number %d at %d is %#v, not %#v", seed, number, i, values[i], v)
			}
		}
	}
}

func TestSortedOfMany(t *testing.T) {
	d := New(4096)
	for i := range 4096 {
		wantAdd(t, d, integer(i*1365%4096-2048), i, api.OK)
	}
	values, indices := d.Sorted()
	if len(values) != 4096 || len(indices) != 4096 {
		t.Fatalf("%d values, %d indices", len(values), len(indices))
	}
	for i := range 4096 {
		if values[i] != integer(i-2048) || indices[i] != i*1365%4096 {
			t.Fatalf("value %d: %#v, index %d", i, values[i], indices[i])
		}
	}
}

func TestSortedKeepsNothing(t *testing.T) {
	l := []api.Value{str("b"), integer(7), boolean(true), str("a")}
	d := filled(t, 5, l)
	wantAll(t, d, l)
	d.Sorted()
	wantAll(t, d, l)
	wantAdd(t, d, null(), 4, api.OK)
	wantAll(t, d, append(l, null()))
}

func TestSortedIsItsCallers(t *testing.T) {
	// Both orders: a list that rises already could be handed out as it is.
	for _, l := range [][]api.Value{integers(1, 2, 3), integers(3, 1, 2)} {
		d := filled(t, 10, l)
		values, indices := d.Sorted()
		earlier, before := d.Sorted()
		for i := range values {
			values[i], indices[i] = str("spoilt"), -9
		}
		_, _ = append(values, null()), append(indices, -9)
		_, _ = append(values[:0], null()), append(indices[:0], -9)
		wantAll(t, d, l)
		if !slices.Equal(earlier, sorted(l)) || !slices.Equal(before, ranks(l)) {
			t.Errorf("another result has changed: %#v, %v", earlier, before)
		}
		wantAdd(t, d, integer(9), 3, api.OK)
		wantAdd(t, d, integer(2), slices.Index(l, integer(2)), api.OK)
		wantAll(t, d, append(slices.Clone(l), integer(9)))
	}
}

func TestSortedStaysWhenMoreIsAdded(t *testing.T) {
	d := filled(t, 10, integers(3, 1))
	values, indices := d.Sorted()
	for _, n := range []int{2, 0, 4} {
		d.Add(integer(n))
	}
	if !slices.Equal(values, integers(1, 3)) || !slices.Equal(indices, []int{1, 0}) {
		t.Errorf("%#v, %v", values, indices)
	}
}

// FuzzDict gives a dictionary, and a model that is just a list, the same values.
func FuzzDict(f *testing.F) {
	f.Add(3, []byte{7, 3, 7, 200, 12, 90})
	f.Add(-1, []byte{1})
	f.Fuzz(func(t *testing.T, limit int, choices []byte) {
		all := slices.Concat(rising(), invalid())
		d, l := New(limit), []api.Value(nil)
		for _, c := range choices[:min(len(choices), 300)] {
			v := all[int(c)%len(all)]
			number := slices.Index(l, v)
			switch {
			case !value.May(v):
				wantAdd(t, d, v, 0, api.ErrArg)
			case number >= 0:
				wantAdd(t, d, v, number, api.OK)
			case len(l) >= limit:
				wantAdd(t, d, v, 0, api.ErrFull)
			default:
				wantAdd(t, d, v, len(l), api.OK)
				l = append(l, v)
			}
		}
		wantAll(t, d, l)
	})
}

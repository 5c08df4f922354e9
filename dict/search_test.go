package dict

import (
	"math"
	"slices"
	"testing"

	"winnower/api"
	"winnower/value"
)

// doesRise is the definition of Rises, in which each element is held against all behind it.
func doesRise(l []api.Value) bool {
	for i, v := range l {
		if !value.May(v) {
			return false
		}
		for _, later := range l[i+1:] {
			if value.Order(v, later) != -1 {
				return false
			}
		}
	}
	return true
}

// firstNotBefore is the definition of Search, element by element.
func firstNotBefore(l []api.Value, v api.Value) (int, bool) {
	if !doesRise(l) || !value.May(v) {
		return 0, false
	}
	for i, element := range l {
		if value.Order(element, v) >= 0 {
			return i, element == v
		}
	}
	return len(l), false
}

func wantRises(t *testing.T, l []api.Value, rises bool) {
	t.Helper()
	if got := Rises(l); got != rises {
		t.Errorf("Rises of %#v: %t", l, got)
	}
}

func wantSearch(t *testing.T, l []api.Value, v api.Value, index int, there bool) {
	t.Helper()
	if i, ok := Search(l, v); i != index || ok != there {
		t.Errorf("Search of %#v in %#v: %d, %t, not %d, %t", v, l, i, ok, index, there)
	}
}

func TestRisesOfEmpty(t *testing.T) {
	wantRises(t, nil, true)
	wantRises(t, []api.Value{}, true)
}

func TestRisesOfOne(t *testing.T) {
	for _, v := range rising() {
		wantRises(t, []api.Value{v}, true)
	}
	for _, v := range invalid() {
		wantRises(t, []api.Value{v}, false)
	}
}

func TestRisesOfTwo(t *testing.T) {
	for i, a := range rising() {
		for k, b := range rising() {
			wantRises(t, []api.Value{a, b}, i < k)
		}
	}
}

func TestRisesOfMany(t *testing.T) {
	wantRises(t, rising(), true)
	fall := rising()
	slices.Reverse(fall)
	wantRises(t, fall, false)
	for i := range rising() {
		wantRises(t, slices.Delete(rising(), i, i+1), true)
		wantRises(t, slices.Insert(rising(), i, rising()[i]), false)
		if i > 0 {
			swapped := rising()
			swapped[i-1], swapped[i] = swapped[i], swapped[i-1]
			wantRises(t, swapped, false)
		}
	}
	wantRises(t, integers(1, 3, 2, 4), false)
	wantRises(t, integers(1, 2, 1, 2), false)
	wantRises(t, integers(1, 2, 3, 3), false)
}

func TestRisesWithInvalidValues(t *testing.T) {
	for _, v := range invalid() {
		wantRises(t, []api.Value{v, v}, false)
		for i := range len(rising()) + 1 {
			wantRises(t, slices.Insert(rising(), i, v), false)
		}
	}
	// By Order these rise.
	wantRises(t, []api.Value{{Kind: -1}, null(), integer(1)}, false)
	wantRises(t, []api.Value{integer(1), {Kind: api.Int, I: 2, B: true}, integer(3)}, false)
	wantRises(t, []api.Value{integer(1), {Kind: 4}}, false)
	wantRises(t, []api.Value{str("a"), str(letters(65))}, false)
}

func TestRisesOfTheGreatest(t *testing.T) {
	wantRises(t, integers(math.MinInt, math.MaxInt), true)
	wantRises(t, integers(math.MaxInt, math.MinInt), false)
	wantRises(t, integers(-1, math.MaxInt), true)
	long := make([]api.Value, 10000)
	for i := range long {
		long[i] = integer(i)
	}
	wantRises(t, long, true)
	long[9999] = integer(9998)
	wantRises(t, long, false)
}

func TestSearchInEmpty(t *testing.T) {
	for _, v := range slices.Concat(rising(), invalid()) {
		wantSearch(t, nil, v, 0, false)
		wantSearch(t, []api.Value{}, v, 0, false)
	}
}

func TestSearchInOne(t *testing.T) {
	l := integers(5)
	wantSearch(t, l, integer(4), 0, false)
	wantSearch(t, l, integer(5), 0, true)
	wantSearch(t, l, integer(6), 1, false)
	wantSearch(t, l, null(), 0, false)
	wantSearch(t, l, str(""), 1, false)
}

func TestSearchInThree(t *testing.T) {
	l := integers(10, 20, 30)
	for _, c := range []struct {
		n, index int
		there    bool
	}{
		{math.MinInt, 0, false}, {9, 0, false}, {10, 0, true}, {11, 1, false}, {19, 1, false}, {20, 1, true},
		{21, 2, false}, {30, 2, true}, {31, 3, false}, {math.MaxInt, 3, false},
	} {
		wantSearch(t, l, integer(c.n), c.index, c.there)
	}
}

func TestSearchOfEachInLists(t *testing.T) {
	all := rising()
	for length := range len(all) + 1 {
		l := all[:length]
		for i, v := range all {
			wantSearch(t, l, v, min(i, length), i < length)
		}
		l = all[len(all)-length:]
		for i, v := range all {
			wantSearch(t, l, v, max(0, i-len(all)+length), i >= len(all)-length)
		}
	}
}

func TestSearchBetween(t *testing.T) {
	for first := range 2 {
		var l []api.Value
		for i, v := range rising() {
			if i%2 == first {
				l = append(l, v)
			}
		}
		for i, v := range rising() {
			wantSearch(t, l, v, (i+1-first)/2, i%2 == first)
		}
	}
}

func TestSearchInListsThatDoNotRise(t *testing.T) {
	for _, l := range [][]api.Value{
		integers(3, 1), integers(1, 1), integers(1, 2, 3, 3), integers(2, 1, 3), {integer(1), {Kind: 4}}, {{Kind: -1}, integer(1)},
		{integer(1), {Kind: api.Int, I: 2, B: true}, integer(3)}, {boolean(true), str("a"), integer(1), null()},
	} {
		for _, v := range slices.Concat(rising(), invalid(), integers(3), l) {
			wantSearch(t, l, v, 0, false)
		}
	}
}

func TestSearchOfInvalidValues(t *testing.T) {
	for _, v := range invalid() {
		wantSearch(t, rising(), v, 0, false)
		wantSearch(t, integers(7), v, 0, false)
		wantSearch(t, integers(-1), v, 0, false)
	}
}

func TestSearchFindsIndicesOfSorted(t *testing.T) {
	d := filled(t, 100, shuffled(rising(), 3))
	values, indices := d.Sorted()
	for number, index := range indices {
		v, _ := d.At(number)
		wantSearch(t, values, v, index, true)
	}
}

func TestArgumentsStay(t *testing.T) {
	for _, l := range [][]api.Value{rising(), shuffled(rising(), 1), invalid(), integers(3, 3, 1)} {
		kept := slices.Clone(l)
		Rises(l)
		Search(l, integer(3))
		Search(l, api.Value{Kind: 4})
		if !slices.Equal(l, kept) {
			t.Errorf("%#v has become %#v", kept, l)
		}
	}
}

func TestSearchInLong(t *testing.T) {
	for _, length := range []int{4095, 4096, 4097, 10000} {
		var l []api.Value
		for i := range length {
			l = append(l, integer(i*2))
		}
		for _, i := range []int{0, 1, 2, length / 2, length - 2, length - 1} {
			wantSearch(t, l, integer(i*2-1), i, false)
			wantSearch(t, l, integer(i*2), i, true)
			wantSearch(t, l, integer(i*2+1), i+1, false)
		}
	}
}

// The search does not hang on what the elements are, nor on how it tells which is first.
func TestPlaceOfOtherElements(t *testing.T) {
	falling := func(a, b string) int { return len(b) - len(a) }
	l := []string{"xxx", "xx", "x"}
	for length, index := range []int{3, 2, 1, 0, 0} {
		if i, there := place(l, letters(length), falling); i != index || there != (length >= 1 && length <= 3) {
			t.Errorf("length %d: %d, %t", length, i, there)
		}
	}
}

func FuzzSearch(f *testing.F) {
	f.Add([]byte{1, 5, 9}, byte(5))
	f.Add([]byte{9, 5}, byte(5))
	f.Add([]byte{1, 40}, byte(1))
	f.Fuzz(func(t *testing.T, choices []byte, sought byte) {
		all := slices.Concat(rising(), invalid())
		var l []api.Value
		for _, c := range choices[:min(len(choices), 100)] {
			l = append(l, all[int(c)%len(all)])
		}
		v := all[int(sought)%len(all)]
		wantRises(t, l, doesRise(l))
		index, there := firstNotBefore(l, v)
		wantSearch(t, l, v, index, there)
		l = sorted(l)
		wantRises(t, l, doesRise(l))
		index, there = firstNotBefore(l, v)
		wantSearch(t, l, v, index, there)
	})
}

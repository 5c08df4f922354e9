package bitset

import (
	"math"
	"slices"
	"testing"

	"winnower/api"
)

// inadmissible are numbers that no set contains.
func inadmissible() []int {
	return []int{math.MinInt, math.MinInt + 63, -65536, -65535, -65, -64, -63, -2, -1, 65536, 65537, 65599, 65600, 131072, 1 << 32, 1<<32 + 1, math.MaxInt - 63, math.MaxInt}
}

// edges are admissible numbers at which something could begin or end.
func edges() []int {
	return []int{0, 1, 2, 7, 8, 31, 32, 62, 63, 64, 65, 126, 127, 128, 129, 4095, 4096, 32767, 32768, 65471, 65472, 65534, 65535}
}

// from are the numbers from first to below end.
func from(first, end int) []int {
	l := make([]int, 0, max(0, end-first))
	for i := first; i < end; i++ {
		l = append(l, i)
	}
	return l
}

// every are the admissible numbers from first on, each step behind the one before it.
func every(first, step int) []int {
	var l []int
	for i := first; i < api.MaxRows; i += step {
		l = append(l, i)
	}
	return l
}

// lists are rising lists of admissible numbers.
func lists() [][]int {
	return [][]int{
		nil, {0}, {1}, {63}, {64}, {65534}, {65535}, {0, 1}, {1, 3}, {2, 3, 5}, {62, 63, 64, 65}, {0, 65535}, {64, 128, 192},
		from(0, 64), from(0, 65), from(1, 64), from(60, 70), from(64, 128), from(100, 300), from(65530, 65536),
		edges(), every(0, 2), every(1, 2), every(3, 1000), from(0, 65535), from(0, 65536),
	}
}

// where are the elements of l for which is holds.
func where(l []int, is func(i int) bool) []int {
	var out []int
	for _, i := range l {
		if is(i) {
			out = append(out, i)
		}
	}
	return out
}

// flags tell of each admissible number whether it is an element of l.
func flags(l []int) []bool {
	is := make([]bool, api.MaxRows)
	for _, i := range l {
		is[i] = true
	}
	return is
}

func both(a, b []int) []int {
	inB := flags(b)
	return where(a, func(i int) bool { return inB[i] })
}

func either(a, b []int) []int {
	out := append(slices.Clone(a), b...)
	slices.Sort(out)
	return slices.Compact(out)
}

func missing(l []int, n int) []int {
	in := flags(l)
	return where(from(0, min(n, api.MaxRows)), func(i int) bool { return !in[i] })
}

func with(l []int, i int) []int {
	if i < 0 || i >= api.MaxRows || slices.Contains(l, i) {
		return l
	}
	out := append(slices.Clone(l), i)
	slices.Sort(out)
	return out
}

func without(l []int, i int) []int {
	return where(l, func(k int) bool { return k != i })
}

// wantSet checks that s contains the numbers of l, which rises, and no others, by all calls that tell it.
func wantSet(t *testing.T, s Set, l []int) {
	t.Helper()
	wantElements(t, s, l)
	in := flags(l)
	for i := range api.MaxRows {
		if s.Has(i) != in[i] {
			t.Fatalf("Has %d: %t", i, s.Has(i))
		}
	}
	for _, i := range inadmissible() {
		if s.Has(i) {
			t.Fatalf("Has %d", i)
		}
	}
	if made := Of(l...); !Same(s, made) || !Same(made, s) {
		t.Fatalf("not the same as Of %v", l)
	}
}

// wantElements checks what All and Count tell of s.
func wantElements(t *testing.T, s Set, l []int) {
	t.Helper()
	if got := slices.Collect(s.All()); !slices.Equal(got, l) {
		t.Fatalf("All: %v, not %v", got, l)
	}
	if n := s.Count(); n != len(l) {
		t.Fatalf("Count: %d, not %d", n, len(l))
	}
}

func wantSame(t *testing.T, a, b Set, same bool) {
	t.Helper()
	if Same(a, b) != same || Same(b, a) != same {
		t.Fatalf("Same: %t and %t, not %t", Same(a, b), Same(b, a), same)
	}
}

func TestExample(t *testing.T) {
	s := Of(3, 1, 3, -1)
	wantSet(t, s, []int{1, 3})
	wantSet(t, s.Not(3), []int{0, 2})
}

func TestZeroValue(t *testing.T) {
	var zero Set
	wantSet(t, zero, nil)
	wantSame(t, zero, zero, true)
	wantSame(t, zero, Set{}, true)
	wantSame(t, zero, Of(0), false)
	wantSet(t, zero.With(5), []int{5})
	wantSet(t, zero.With(-1), nil)
	wantSet(t, zero.With(65536), nil)
	wantSet(t, zero.Without(5), nil)
	wantSet(t, zero.And(zero), nil)
	wantSet(t, zero.And(Of(5)), nil)
	wantSet(t, Of(5).And(zero), nil)
	wantSet(t, zero.Or(zero), nil)
	wantSet(t, zero.Or(Of(5)), []int{5})
	wantSet(t, Of(5).Or(zero), []int{5})
	wantSet(t, zero.Not(3), []int{0, 1, 2})
	wantSet(t, zero.Not(0), nil)
	wantSet(t, zero, nil)
}

func TestOf(t *testing.T) {
	wantSet(t, Of(), nil)
	wantSet(t, Of([]int{}...), nil)
	for _, l := range lists() {
		s := Of(l...)
		wantSet(t, s, l)
		falling := slices.Clone(l)
		slices.Reverse(falling)
		wantSet(t, Of(falling...), l)
	}
}

func TestOfNumbersInAnyOrder(t *testing.T) {
	wantSet(t, Of(5, 3, 4), []int{3, 4, 5})
	wantSet(t, Of(65535, 0, 64, 63, 130), []int{0, 63, 64, 130, 65535})
	wantSet(t, Of(2, 70, 1, 200, 0), []int{0, 1, 2, 70, 200})
}

func TestOfNumbersTwice(t *testing.T) {
	wantSet(t, Of(7, 7), []int{7})
	wantSet(t, Of(7, 7, 7, 7), []int{7})
	wantSet(t, Of(0, 65535, 0, 65535), []int{0, 65535})
	wantSet(t, Of(1, 2, 1), []int{1, 2})
}

func TestOfInadmissibleNumbers(t *testing.T) {
	wantSet(t, Of(inadmissible()...), nil)
	for _, i := range inadmissible() {
		wantSet(t, Of(i), nil)
		wantSet(t, Of(i, 9, i), []int{9})
		wantSet(t, Of(9, i, 65535), []int{9, 65535})
	}
}

func TestOfLeavesItsArgument(t *testing.T) {
	l := []int{9, -1, 3, 9, 70000, 64}
	s := Of(l...)
	if !slices.Equal(l, []int{9, -1, 3, 9, 70000, 64}) {
		t.Fatalf("changed: %v", l)
	}
	for i := range l {
		l[i] = 5
	}
	wantSet(t, s, []int{3, 9, 64})
}

func TestUpto(t *testing.T) {
	for _, n := range edges() {
		wantSet(t, Upto(n), from(0, n))
	}
	for _, n := range []int{math.MinInt, -65536, -64, -2, -1} {
		wantSet(t, Upto(n), nil)
	}
	for _, n := range []int{65536, 65537, 65599, 65600, 131072, 1 << 40, math.MaxInt} {
		wantSet(t, Upto(n), from(0, 65536))
	}
	for n := range 200 {
		wantElements(t, Upto(n), from(0, n))
	}
}

func TestHas(t *testing.T) {
	s := Of(0, 5, 64, 65535)
	for _, i := range []int{0, 5, 64, 65535} {
		if !s.Has(i) {
			t.Errorf("not %d", i)
		}
	}
	for _, i := range append(inadmissible(), 1, 4, 6, 63, 65, 69, 128, 65534) {
		if s.Has(i) {
			t.Errorf("%d", i)
		}
	}
}

func TestWithAndWithout(t *testing.T) {
	for _, l := range lists() {
		s := Of(l...)
		for _, i := range append(inadmissible(), edges()...) {
			wantElements(t, s.With(i), with(l, i))
			wantElements(t, s.Without(i), without(l, i))
			wantSame(t, s.With(i), Of(with(l, i)...), true)
			wantSame(t, s.Without(i), Of(without(l, i)...), true)
			if s.With(i).Has(i) != (i >= 0 && i <= 65535) || s.Without(i).Has(i) {
				t.Fatalf("%d", i)
			}
		}
		wantSet(t, s, l)
	}
}

func TestWithoutTheGreatest(t *testing.T) {
	wantSet(t, Of(65535).Without(65535), nil)
	wantSet(t, Of(3, 65535).Without(65535), []int{3})
	wantSet(t, Of(3, 64, 65535).Without(65535).Without(64), []int{3})
	wantSet(t, Upto(65536).Without(65535), from(0, 65535))
}

func TestSetsOfTwo(t *testing.T) {
	for _, a := range lists() {
		for _, b := range lists() {
			s, u := Of(a...), Of(b...)
			wantElements(t, s.And(u), both(a, b))
			wantElements(t, s.Or(u), either(a, b))
			wantSame(t, s.And(u), Of(both(a, b)...), true)
			wantSame(t, s.Or(u), Of(either(a, b)...), true)
			wantSame(t, s, u, slices.Equal(a, b))
			wantElements(t, s, a)
			wantElements(t, u, b)
		}
	}
}

func TestSetsWithNothingInCommon(t *testing.T) {
	for _, c := range []struct{ a, b []int }{
		{[]int{1}, []int{2}}, {[]int{1}, []int{65535}}, {every(0, 2), every(1, 2)}, {from(0, 64), from(64, 128)}, {nil, edges()},
	} {
		wantSet(t, Of(c.a...).And(Of(c.b...)), nil)
		wantSet(t, Of(c.b...).And(Of(c.a...)), nil)
		wantSet(t, Of(c.a...).Or(Of(c.b...)), either(c.a, c.b))
		wantSet(t, Of(c.b...).Or(Of(c.a...)), either(c.a, c.b))
		wantSame(t, Of(c.a...), Of(c.b...), false)
	}
}

func TestSetAndItself(t *testing.T) {
	for _, l := range lists() {
		s := Of(l...)
		wantSet(t, s.And(s), l)
		wantSet(t, s.Or(s), l)
		wantSame(t, s, s, true)
	}
}

func TestSetsWhoseGreatestNumbersDiffer(t *testing.T) {
	small, great := Of(1, 2, 5), Of(2, 5, 70, 65535)
	wantSet(t, small.And(great), []int{2, 5})
	wantSet(t, great.And(small), []int{2, 5})
	wantSet(t, small.Or(great), []int{1, 2, 5, 70, 65535})
	wantSet(t, great.Or(small), []int{1, 2, 5, 70, 65535})
	wantSame(t, small, great, false)
	wantSame(t, Of(1, 2, 5), Of(1, 2, 5, 64), false)
	wantSame(t, Of(1, 2, 5), Of(1, 2, 5, 6), false)
	wantSame(t, Of(1, 2, 5), Of(1, 2, 4, 5), false)
}

func TestNot(t *testing.T) {
	for _, l := range lists() {
		s := Of(l...)
		for _, n := range append(inadmissible(), edges()...) {
			wantElements(t, s.Not(n), missing(l, n))
			wantSame(t, s.Not(n), Of(missing(l, n)...), true)
		}
		wantElements(t, s, l)
	}
}

func TestNotBelowTheGreatestNumber(t *testing.T) {
	s := Of(0, 3, 63, 64, 100)
	wantSet(t, s.Not(100), missing([]int{0, 3, 63, 64}, 100))
	wantSet(t, s.Not(101), missing([]int{0, 3, 63, 64}, 100))
	wantSet(t, s.Not(64), missing([]int{0, 3, 63}, 64))
	wantSet(t, s.Not(4), []int{1, 2})
	wantSet(t, s.Not(1), nil)
	wantSet(t, s.Not(65536), missing([]int{0, 3, 63, 64, 100}, 65536))
	wantSet(t, s.Not(math.MaxInt), missing([]int{0, 3, 63, 64, 100}, 65536))
	wantSet(t, Upto(65536).Not(65536), nil)
	wantSet(t, Upto(65535).Not(math.MaxInt), []int{65535})
	wantSet(t, Upto(100).Not(100), nil)
}

func TestCount(t *testing.T) {
	for _, c := range []struct {
		s     Set
		count int
	}{
		{Set{}, 0}, {Of(), 0}, {Of(0), 1}, {Of(65535), 1}, {Of(5, 5), 1}, {Of(edges()...), 23}, {Of(every(0, 2)...), 32768},
		{Upto(65535), 65535}, {Upto(65536), 65536}, {Of(from(0, 65536)...), 65536}, {Upto(65536).Without(7), 65535},
	} {
		if n := c.s.Count(); n != c.count {
			t.Errorf("%d, not %d", n, c.count)
		}
	}
}

func TestAllOfEmpty(t *testing.T) {
	for _, s := range []Set{{}, Of(), Upto(0), Of(5).Without(5), Of(65535).And(Of(1)), Upto(100).Not(100)} {
		for i := range s.All() {
			t.Errorf("%d", i)
		}
	}
}

// TestAllEnded ends the loop after each number of elements in turn: after the first one, and after the last one too.
func TestAllEnded(t *testing.T) {
	for _, l := range [][]int{{0}, {65535}, {0, 65535}, {62, 63, 64, 65}, from(0, 130), edges()} {
		s := Of(l...)
		for most := 1; most <= len(l); most++ {
			var got []int
			for i := range s.All() {
				got = append(got, i)
				if len(got) == most {
					break
				}
			}
			if !slices.Equal(got, l[:most]) {
				t.Fatalf("%v, not %v", got, l[:most])
			}
		}
	}
}

func TestAllOfFullEnded(t *testing.T) {
	for _, last := range []int{0, 1, 63, 64, 32768, 65534, 65535} {
		count := 0
		for i := range Upto(65536).All() {
			if i != count {
				t.Fatalf("%d, not %d", i, count)
			}
			count++
			if i == last {
				break
			}
		}
		if count != last+1 {
			t.Fatalf("%d elements, the last of which is %d", count, last)
		}
	}
}

// TestAllAsksNoMore calls the iterator as a loop does: once told to stop, it must not call again.
func TestAllAsksNoMore(t *testing.T) {
	for _, l := range [][]int{{5}, {5, 6}, {5, 64}, {63, 64}, {5, 65535}} {
		calls := 0
		Of(l...).All()(func(int) bool {
			calls++
			return false
		})
		if calls != 1 {
			t.Errorf("%v: %d calls", l, calls)
		}
	}
}

func TestAllAgain(t *testing.T) {
	l := []int{0, 63, 64, 65535}
	all := Of(l...).All()
	for range all {
		break
	}
	for range 2 {
		if got := slices.Collect(all); !slices.Equal(got, l) {
			t.Fatalf("%v", got)
		}
	}
	var outer, inner []int
	for i := range all {
		outer = append(outer, i)
		inner = slices.Collect(all)
	}
	if !slices.Equal(outer, l) || !slices.Equal(inner, l) {
		t.Errorf("%v, %v", outer, inner)
	}
}

func TestAllWhileTheVariableChanges(t *testing.T) {
	s := Of(1, 2, 200)
	var got []int
	for i := range s.All() {
		got = append(got, i)
		s = s.Without(i).Without(200).With(3)
	}
	if !slices.Equal(got, []int{1, 2, 200}) {
		t.Errorf("%v", got)
	}
	wantSet(t, s, []int{3})
}

// TestSameByOtherWays makes the same sets in several ways: what is left of greater numbers must not tell them apart.
func TestSameByOtherWays(t *testing.T) {
	for _, group := range [][]Set{
		{{}, Of(), Of(-1, 65536), Upto(0), Upto(-1), Of(65535).Without(65535), Of(1).And(Of(65535)), Upto(65536).Not(65536), Upto(99).Not(99), Set{}.With(65536)},
		{Of(1, 3), Of(3, 1, 3, -1), Set{}.With(3).With(1), Upto(4).Without(0).Without(2), Of(0, 2).Not(4), Of(1).Or(Of(3)), Of(1, 3, 9).And(Of(0, 1, 3)), Of(1, 3, 65535).Without(65535), Of(1, 3, 70).And(Of(1, 3, 65535)), Of(1, 3).Not(65536).Not(65536)},
		{Upto(65536), Upto(math.MaxInt), Of(from(0, 65536)...), Set{}.Not(65536), Of(5).Not(65536).With(5), Of(every(0, 2)...).Or(Of(every(1, 2)...))},
		{Upto(64), Of(from(0, 64)...), Upto(65).Without(64), Upto(65536).And(Upto(64)), Of(64, 65).Not(64), Set{}.Not(64)},
	} {
		for _, s := range group {
			for _, u := range group {
				wantSame(t, s, u, true)
				wantSame(t, s.With(40000), u.Without(40000), false)
				wantSame(t, s.With(40000), u.With(40000), true)
			}
		}
	}
}

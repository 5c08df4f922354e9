package bitset

import (
	"math"
	"testing"

	"winnower/api"
)

// TestOthersMadeOfASet keeps sets while others are made of them, and others of those: none may change.
func TestOthersMadeOfASet(t *testing.T) {
	type kept struct {
		s Set
		l []int
	}
	for _, first := range []kept{
		{Set{}, nil}, {Of(3), []int{3}}, {Of(1, 64, 65535).Without(65535), []int{1, 64}}, {Upto(130), from(0, 130)},
		{Of(1, 2, 500).And(Of(1, 2, 65535)), []int{1, 2}}, {Of(9).Or(Of(65535)).Without(65535), []int{9}}, {Upto(200).Not(201), []int{200}},
	} {
		sets := []kept{first}
		for k := range 60 {
			one, other := sets[k/4], sets[len(sets)/2]
			i := k * 37 % 210
			switch k % 5 {
			case 0:
				sets = append(sets, kept{one.s.With(i), with(one.l, i)})
			case 1:
				sets = append(sets, kept{one.s.Without(i), without(one.l, i)})
			case 2:
				sets = append(sets, kept{one.s.And(other.s), both(one.l, other.l)})
			case 3:
				sets = append(sets, kept{one.s.Or(other.s), either(one.l, other.l)})
			case 4:
				sets = append(sets, kept{one.s.Not(i), missing(one.l, i)})
			}
		}
		for _, k := range sets {
			wantElements(t, k.s, k.l)
			wantSame(t, k.s, Of(k.l...), true)
		}
	}
}

// TestTwoMadeOfOne makes two sets of one that once had greater numbers: they must not meet where those were.
func TestTwoMadeOfOne(t *testing.T) {
	for _, s := range []Set{Of(1, 65535).Without(65535), Of(1, 300).And(Of(1, 400)), Of(0, 5).Not(2), Of(2, 1, 300).Without(2).Without(300)} {
		a, b := s.With(65534), s.With(65535)
		c := a.Without(65534).With(299)
		wantSet(t, a, []int{1, 65534})
		wantSet(t, b, []int{1, 65535})
		wantSet(t, c, []int{1, 299})
		wantSet(t, s, []int{1})
		wantSet(t, a.Or(b), []int{1, 65534, 65535})
		wantSet(t, s, []int{1})
	}
}

// TestUnchangedResultsAreIndependent makes sets by calls that change nothing, and then others of them.
func TestUnchangedResultsAreIndependent(t *testing.T) {
	s := Of(1, 5, 64)
	for _, u := range []Set{s.With(5), s.With(-1), s.With(65536), s.Without(6), s.Without(-1), s.Without(65536), s.And(s), s.Or(s), s.Or(Set{}), s.And(Upto(65536))} {
		wantSet(t, u.Without(64).With(7), []int{1, 5, 7})
		wantSet(t, u, []int{1, 5, 64})
		wantSet(t, s, []int{1, 5, 64})
	}
}

func TestDeMorgan(t *testing.T) {
	for _, a := range lists() {
		for _, b := range lists() {
			s, u := Of(a...), Of(b...)
			for _, n := range []int{math.MinInt, -1, 0, 1, 3, 63, 64, 65, 129, 65535, 65536, math.MaxInt} {
				wantSame(t, s.And(u).Not(n), s.Not(n).Or(u.Not(n)), true)
				wantSame(t, s.Or(u).Not(n), s.Not(n).And(u.Not(n)), true)
			}
		}
	}
}

func TestCountsAddUp(t *testing.T) {
	for _, a := range lists() {
		for _, b := range lists() {
			s, u := Of(a...), Of(b...)
			if s.Count()+u.Count() != s.And(u).Count()+s.Or(u).Count() {
				t.Fatalf("%v and %v: %d + %d, not %d + %d", a, b, s.Count(), u.Count(), s.And(u).Count(), s.Or(u).Count())
			}
		}
	}
}

func TestNotTwice(t *testing.T) {
	for _, l := range lists() {
		s := Of(l...)
		for _, n := range []int{-1, 0, 1, 64, 65, 100, 65535, 65536, math.MaxInt} {
			wantSame(t, s.Not(n).Not(n), s.And(Upto(n)), true)
			wantSame(t, s.Not(n).Or(s.And(Upto(n))), Upto(n), true)
		}
	}
}

// TestAgainstFlags changes a set step by step, and a truth for each admissible number with it.
func TestAgainstFlags(t *testing.T) {
	for seed := range 20 {
		state := uint64(seed)
		draw := func(n int) int {
			state = state*6364136223846793005 + 1442695040888963407
			return int((state >> 33) % uint64(n))
		}
		var s Set
		in := make([]bool, api.MaxRows)
		reach := 1 << (3 + seed%14)
		for range 400 {
			i := draw(reach+4) - 2
			admissible := i >= 0 && i < api.MaxRows
			switch draw(8) {
			case 0, 1, 2, 3, 4:
				s = s.With(i)
				if admissible {
					in[i] = true
				}
			case 5, 6:
				s = s.Without(i)
				if admissible {
					in[i] = false
				}
			case 7:
				n := draw(reach + 200)
				s = s.Not(n)
				for k := range in {
					in[k] = k < n && !in[k]
				}
			}
		}
		var l []int
		for i, is := range in {
			if is {
				l = append(l, i)
			}
		}
		wantSet(t, s, l)
	}
}

package query

import (
	"math"
	"slices"
	"testing"

	"winnower/api"
)

// filtered is a query that is valid but for its filter.
func filtered(l ...api.Node) api.Query {
	return api.Query{Filter: l, Cols: []int{0}}
}

func comparisons() []int {
	return []int{api.Eq, api.Ne, api.Lt, api.Le, api.Gt, api.Ge}
}

// wholeValues are valid values of all kinds.
func wholeValues() []api.Value {
	return []api.Value{
		null(), integer(0), integer(-1), integer(math.MinInt), integer(math.MaxInt),
		str(""), str("a"), str("\xff\x00"), str(letters(64)), boolean(false), boolean(true),
	}
}

// brokenValues are values that are not valid, in each way.
func brokenValues() []api.Value {
	return []api.Value{
		{Kind: -1}, {Kind: 4}, {Kind: math.MinInt}, {Kind: math.MaxInt}, {Kind: 4, I: 1}, {Kind: 5, S: "a"}, {Kind: -1, B: true},
		{Kind: api.Null, I: 1}, {Kind: api.Null, S: "a"}, {Kind: api.Null, B: true},
		{Kind: api.Int, I: 1, S: "a"}, {Kind: api.Int, B: true}, {Kind: api.Int, S: letters(65)},
		{Kind: api.Str, S: "a", I: 1}, {Kind: api.Str, B: true}, {Kind: api.Str, S: letters(65)}, {Kind: api.Str, S: letters(4096)},
		{Kind: api.Bool, B: true, I: 1}, {Kind: api.Bool, S: "a"},
	}
}

// TestCheckOfAsks has them all in a node whose fields are good for each of them.
func TestCheckOfAsks(t *testing.T) {
	for _, ask := range append(numbers(11), 20, 100) {
		want := api.ErrArg
		if ask >= 0 && ask <= 10 {
			want = api.OK
		}
		node := api.Node{Ask: ask, Col: 0, Val: integer(7), A: 0, B: 0}
		wantCheck(t, wide(), filtered(api.Node{}, node), want)
		wantCheck(t, wide(), filtered(api.Node{}, node, api.Node{}), want)
		// As the first node, And, Or and Not have nothing to combine.
		if ask >= api.And && ask <= api.Not {
			want = api.ErrState
		}
		wantCheck(t, wide(), filtered(node), want)
		// With fields that are good for none but All, an unknown Ask is still all that is told.
		broken := api.Node{Ask: ask, Col: -1, Val: api.Value{Kind: 9}, A: 9, B: -9}
		switch {
		case ask == api.All:
			want = api.OK
		case ask >= api.Eq && ask <= api.Is:
			want = api.ErrNone
		}
		wantCheck(t, wide(), filtered(broken), want)
	}
}

func TestCheckOfComparisons(t *testing.T) {
	for _, s := range []api.Schema{wide(), three(), bare(api.Col{Name: "a", Kind: api.Str})} {
		for _, ask := range comparisons() {
			for _, col := range numbers(len(s.Cols)) {
				for i, v := range append(wholeValues(), brokenValues()...) {
					want := api.ErrKind
					if col < 0 || col >= len(s.Cols) {
						want = api.ErrNone
					} else if i < len(wholeValues()) && v.Kind == s.Cols[col].Kind {
						want = api.OK
					}
					node := api.Node{Ask: ask, Col: col, Val: v}
					wantCheck(t, s, filtered(node), want)
					wantCheck(t, s, filtered(api.Node{}, node, api.Node{}), want)
				}
			}
		}
	}
}

// TestCheckOfNull: no comparison may be with Null, of a nullable column neither.
func TestCheckOfNull(t *testing.T) {
	for _, ask := range comparisons() {
		for col := range 8 {
			wantCheck(t, wide(), filtered(api.Node{Ask: ask, Col: col}), api.ErrKind)
		}
	}
}

func TestCheckOfIs(t *testing.T) {
	for _, s := range []api.Schema{wide(), three(), bare(api.Col{Name: "a", Kind: api.Str})} {
		for _, col := range numbers(len(s.Cols)) {
			want := api.ErrNone
			if col >= 0 && col < len(s.Cols) {
				want = api.OK
			}
			wantCheck(t, s, filtered(api.Node{Ask: api.Is, Col: col}), want)
			wantCheck(t, s, filtered(api.Node{}, api.Node{}, api.Node{Ask: api.Is, Col: col}), want)
		}
	}
}

// TestCheckOfOperands has a node at each of several places of a filter, with each A and B.
func TestCheckOfOperands(t *testing.T) {
	for _, count := range []int{1, 2, 3, 5, 32} {
		for i := range count {
			for _, a := range numbers(count) {
				for _, b := range numbers(count) {
					left, right := a >= 0 && a < i, b >= 0 && b < i
					for ask, good := range map[int]bool{api.And: left && right, api.Or: left && right, api.Not: left} {
						want := api.ErrState
						if good {
							want = api.OK
						}
						l := make([]api.Node, count)
						l[i] = api.Node{Ask: ask, A: a, B: b}
						if e := Check(three(), filtered(l...)); e != want {
							t.Fatalf("Ask %d of %d and %d as node %d of %d: error %d", ask, a, b, i, count, e)
						}
					}
				}
			}
		}
	}
}

// TestCheckOfUnusedFields has any numbers in the fields that an Ask does not use.
func TestCheckOfUnusedFields(t *testing.T) {
	values := append(wholeValues(), brokenValues()...)
	for i, n := range numbers(8) {
		for j, m := range numbers(8) {
			v := values[(i+3*j)%len(values)]
			for _, ask := range comparisons() {
				wantCheck(t, wide(), filtered(api.Node{Ask: ask, Col: 6, Val: integer(i), A: n, B: m}), api.OK)
			}
			l := []api.Node{
				{Ask: api.All, Col: n, Val: v, A: m, B: n},
				{Ask: api.Is, Col: 7, Val: v, A: n, B: m},
				{Ask: api.And, Col: n, Val: v, A: 1, B: 0},
				{Ask: api.Or, Col: m, Val: v, A: 0, B: 2},
				{Ask: api.Not, Col: n, Val: v, A: 3, B: m},
			}
			wantCheck(t, wide(), filtered(l...), api.OK)
		}
	}
}

// TestCheckOfDeepFilters has chains of nodes each of which combines the one just ahead and the first one.
func TestCheckOfDeepFilters(t *testing.T) {
	for _, ask := range []int{api.And, api.Or, api.Not} {
		for count := 2; count <= 33; count++ {
			l := []api.Node{{Ask: api.Eq, Col: 2, Val: str("a")}}
			for i := 1; i < count; i++ {
				l = append(l, api.Node{Ask: ask, A: i - 1})
			}
			want := api.OK
			if count > 32 {
				want = api.ErrLong
			}
			wantCheck(t, wide(), filtered(l...), want)
			l[count-1].A = count - 1
			if want == api.OK {
				want = api.ErrState
			}
			wantCheck(t, wide(), filtered(l...), want)
		}
	}
}

// nodes are one without an error, and one with each error that a node may have: at each place of a filter.
func nodes() map[string]struct {
	node api.Node
	e    api.Errno
} {
	return map[string]struct {
		node api.Node
		e    api.Errno
	}{
		"good":          {api.Node{Ask: api.Ge, Col: 0, Val: integer(3), A: -1, B: -1}, api.OK},
		"no Ask":        {api.Node{Ask: api.Asks, Col: 8, A: -1, B: -1}, api.ErrArg},
		"no column":     {api.Node{Ask: api.Lt, Col: 8, Val: api.Value{Kind: 9}, A: -1, B: -1}, api.ErrNone},
		"Is, no column": {api.Node{Ask: api.Is, Col: -1, A: -1, B: -1}, api.ErrNone},
		"another kind":  {api.Node{Ask: api.Eq, Col: 0, Val: str("3"), A: -1, B: -1}, api.ErrKind},
		"no valid Val":  {api.Node{Ask: api.Ne, Col: 2, Val: str(letters(65)), A: -1, B: -1}, api.ErrKind},
		"no B":          {api.Node{Ask: api.And, A: 0, B: 9, Col: -1}, api.ErrState},
		"no A":          {api.Node{Ask: api.Or, A: -1, B: 0, Col: -1}, api.ErrState},
		"Not, no A":     {api.Node{Ask: api.Not, A: 4, B: 0, Col: -1}, api.ErrState},
	}
}

// TestFirstNodeTells has each sequence of four nodes, with errors or without.
func TestFirstNodeTells(t *testing.T) {
	for _, a := range nodes() {
		for _, b := range nodes() {
			for _, c := range nodes() {
				for _, d := range nodes() {
					want := api.OK
					for _, e := range slices.Backward([]api.Errno{a.e, b.e, c.e, d.e}) {
						if e != api.OK {
							want = e
						}
					}
					wantCheck(t, wide(), filtered(a.node, b.node, c.node, d.node), want)
				}
			}
		}
	}
}

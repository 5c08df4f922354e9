package query

import (
	"math"
	"testing"

	"winnower/api"
)

func TestUsesOfEmptyQueries(t *testing.T) {
	wantUses(t, api.Query{})
	wantUses(t, api.Query{Filter: []api.Node{}, Cols: []int{}, Group: []int{}, Aggs: []api.Agg{}, Sort: []api.By{}})
	// A filter that names no column, an order and a limit.
	wantUses(t, api.Query{Filter: []api.Node{{}, {Ask: api.Not}}, Sort: []api.By{{Out: 3}, {Out: 5, Desc: true}}, Limit: 7})
}

// TestUsesOfEachPlace has a column in each place that may name one.
func TestUsesOfEachPlace(t *testing.T) {
	for _, col := range numbers(9) {
		var queries []api.Query
		for _, ask := range append(comparisons(), api.Is) {
			// The other fields name nothing, whatever they are.
			node := api.Node{Ask: ask, Col: col, Val: integer(99), A: 77, B: 66}
			queries = append(queries, filtered(node), api.Query{Filter: []api.Node{{}, node, {Ask: api.Not, A: 1}}, Cols: []int{0}})
		}
		queries = append(queries, api.Query{Cols: []int{0, col}}, api.Query{Group: []int{col, 0}})
		for _, fn := range []int{api.Count, api.Sum, api.Min, api.Max, api.Distinct} {
			queries = append(queries, api.Query{Group: []int{0}, Aggs: []api.Agg{{Fn: api.Count, Col: -1}, {Fn: fn, Col: col}}})
		}
		for _, q := range queries {
			if col > 0 {
				wantUses(t, q, 0, col)
			} else {
				wantUses(t, q, 0)
			}
		}
	}
}

// TestUsesOfNodesWithoutColumn: the Col of other nodes names nothing.
func TestUsesOfNodesWithoutColumn(t *testing.T) {
	others := []int{api.All, api.And, api.Or, api.Not}
	for _, ask := range append(numbers(11), 20, 100) {
		if ask < 0 || ask > 10 {
			others = append(others, ask)
		}
	}
	for _, ask := range others {
		for _, col := range []int{0, 3, 7, 8, math.MaxInt, -1} {
			node := api.Node{Ask: ask, Col: col, A: 5, B: 6, Val: integer(4)}
			wantUses(t, api.Query{Filter: []api.Node{node}})
			wantUses(t, api.Query{Filter: []api.Node{{Ask: api.Is, Col: 2}, node, {Ask: api.Ge, Col: 1}}}, 1, 2)
		}
	}
}

// TestUsesOfSeveral has columns that are named once and more often, in no order.
func TestUsesOfSeveral(t *testing.T) {
	wantUses(t, api.Query{Cols: []int{5, 2, 5, 0, 2}}, 0, 2, 5)
	wantUses(t, api.Query{Group: []int{7, 1, 7, 1}}, 1, 7)
	wantUses(t, aggregated(api.Agg{Fn: api.Max, Col: 6}, api.Agg{Fn: api.Sum, Col: 1}, api.Agg{Fn: api.Min, Col: 6}, api.Agg{Fn: api.Count, Col: -1}), 1, 6)
	wantUses(t, api.Query{Filter: []api.Node{{Ask: api.Gt, Col: 4}, {Ask: api.Is, Col: 3}, {Ask: api.Ne, Col: 4}, {Ask: api.Is, Col: 1}, {Ask: api.And, Col: 2}}}, 1, 3, 4)
	wantUses(t, api.Query{Filter: []api.Node{{Ask: api.Eq, Col: 5}, {Ask: api.Is, Col: 2}}, Group: []int{4, 0}, Aggs: []api.Agg{{Fn: api.Sum, Col: 3}, {Fn: api.Max, Col: 2}}}, 0, 2, 3, 4, 5)
	wantUses(t, api.Query{Filter: []api.Node{{Ask: api.Le, Col: 1}}, Cols: []int{1}}, 1)
	// Numbers that no column has, far apart, and negative ones between them.
	wantUses(t, api.Query{
		Filter: []api.Node{{Ask: api.Lt, Col: math.MaxInt}, {Ask: api.Is, Col: math.MinInt}, {Ask: api.Is, Col: 1 << 40}},
		Cols:   []int{-1, 8, -8, 1 << 32, 8},
		Group:  []int{9, -2, 0, 9},
		Aggs:   []api.Agg{{Fn: api.Min, Col: math.MaxInt - 1}, {Fn: api.Count, Col: -1}, {Fn: api.Count, Col: math.MaxInt}},
	}, 0, 8, 9, 1<<32, 1<<40, math.MaxInt-1, math.MaxInt)
	wantUses(t, api.Query{Cols: []int{-1, math.MinInt}, Group: []int{-1}, Aggs: []api.Agg{{Fn: api.Sum, Col: -1}}, Filter: []api.Node{{Ask: api.Is, Col: -1}}})
}

// TestUsesOfInvalidQueries: it does not matter what else is wrong with a query.
func TestUsesOfInvalidQueries(t *testing.T) {
	// An aggregate names its column whatever its Fn is.
	for _, fn := range []int{math.MinInt, -1, 0, 6, math.MaxInt} {
		wantUses(t, aggregated(api.Agg{Fn: fn, Col: 3}), 3)
	}
	q := api.Query{Limit: -1, Sort: make([]api.By, 9)}
	var want []int
	for n := range 1000 {
		q.Cols = append(q.Cols, 4000-4*n)
		q.Group = append(q.Group, 4*n+1)
		q.Aggs = append(q.Aggs, api.Agg{Fn: api.Sum, Col: 4*n + 2})
		q.Filter = append(q.Filter, api.Node{Ask: api.Eq, Col: 3999 - 4*n})
	}
	for n := range 4000 {
		want = append(want, n+1)
	}
	wantUses(t, q, want...)
}

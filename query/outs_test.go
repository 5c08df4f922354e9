package query

import (
	"slices"
	"testing"

	"winnower/api"
)

func TestOutsOfCols(t *testing.T) {
	wantOuts(t, wide(), api.Query{Cols: []int{0, 1, 2, 3, 4, 5, 6, 7}}, api.Int, api.Int, api.Str, api.Str, api.Bool, api.Bool, api.Int, api.Bool)
	wantOuts(t, wide(), api.Query{Cols: []int{7, 2, 2, 0, 7}}, api.Bool, api.Str, api.Str, api.Int, api.Bool)
	for col, kind := range []int{api.Int, api.Int, api.Str, api.Str, api.Bool, api.Bool, api.Int, api.Bool} {
		wantOuts(t, wide(), api.Query{Cols: []int{col}}, kind)
		wantOuts(t, wide(), api.Query{Group: []int{col}}, kind)
		wantOuts(t, wide(), api.Query{Group: []int{2, col}}, api.Str, kind)
	}
}

func TestOutsOfAggs(t *testing.T) {
	wantOuts(t, wide(), aggregated(api.Agg{Fn: api.Count, Col: -1}), api.Int)
	for col, kind := range []int{api.Int, api.Int, api.Str, api.Str, api.Bool, api.Bool, api.Int, api.Bool} {
		wantOuts(t, wide(), aggregated(api.Agg{Fn: api.Count, Col: col}), api.Int)
		wantOuts(t, wide(), aggregated(api.Agg{Fn: api.Distinct, Col: col}), api.Int)
		wantOuts(t, wide(), aggregated(api.Agg{Fn: api.Min, Col: col}), kind)
		wantOuts(t, wide(), aggregated(api.Agg{Fn: api.Max, Col: col}), kind)
		if kind == api.Int {
			wantOuts(t, wide(), aggregated(api.Agg{Fn: api.Sum, Col: col}), api.Int)
		} else {
			wantOuts(t, wide(), aggregated(api.Agg{Fn: api.Sum, Col: col}))
		}
	}
	wantOuts(t, wide(), aggregated(api.Agg{Fn: api.Max, Col: 2}, api.Agg{Fn: api.Count, Col: -1}, api.Agg{Fn: api.Min, Col: 7}, api.Agg{Fn: api.Count, Col: 5}), api.Str, api.Int, api.Bool, api.Int)
}

// TestOutsOfGroupsWithAggs has a filter, an order and a limit too, which change nothing.
func TestOutsOfGroupsWithAggs(t *testing.T) {
	q := api.Query{
		Group: []int{4, 2, 0, 2},
		Aggs:  []api.Agg{{Fn: api.Count, Col: -1}, {Fn: api.Max, Col: 5}, {Fn: api.Min, Col: 3}, {Fn: api.Sum, Col: 1}},
	}
	want := []int{api.Bool, api.Str, api.Int, api.Str, api.Int, api.Bool, api.Str, api.Int}
	wantOuts(t, wide(), q, want...)
	q.Filter = []api.Node{{Ask: api.Eq, Col: 2, Val: str("a")}, {Ask: api.Not}}
	wantOuts(t, wide(), q, want...)
	q.Sort = []api.By{{Out: 7, Desc: true}, {Out: 0}}
	q.Limit = 4096
	wantOuts(t, wide(), q, want...)
}

// TestOutsOfInvalidQueries has an error of each kind, which is all that keeps it from outputs.
func TestOutsOfInvalidQueries(t *testing.T) {
	for i, change := range []func(q *api.Query){
		func(q *api.Query) { q.Filter = make([]api.Node, 33) },
		func(q *api.Query) { q.Group = make([]int, 5) },
		func(q *api.Query) { q.Aggs = slices.Repeat([]api.Agg{{Fn: api.Count, Col: -1}}, 5) },
		func(q *api.Query) { q.Sort = make([]api.By, 5) },
		func(q *api.Query) { q.Cols, q.Group, q.Aggs = make([]int, 9), nil, nil },
		func(q *api.Query) { q.Limit = -1 },
		func(q *api.Query) { q.Limit = 4097 },
		func(q *api.Query) { q.Filter = []api.Node{{Ask: -1}} },
		func(q *api.Query) { q.Filter = []api.Node{{Ask: api.Is, Col: 8}} },
		func(q *api.Query) { q.Filter = []api.Node{{Ask: api.Eq, Col: 0}} },
		func(q *api.Query) { q.Filter = []api.Node{{Ask: api.Not}} },
		func(q *api.Query) { q.Group = []int{8} },
		func(q *api.Query) { q.Group = []int{0, -1} },
		func(q *api.Query) { q.Cols, q.Group, q.Aggs = []int{0, 8}, nil, nil },
		func(q *api.Query) { q.Aggs = []api.Agg{{Fn: api.Fns}} },
		func(q *api.Query) { q.Aggs = []api.Agg{{Fn: api.Min, Col: -1}} },
		func(q *api.Query) { q.Aggs = []api.Agg{{Fn: api.Sum, Col: 7}} },
		func(q *api.Query) { q.Cols = []int{0} },
		func(q *api.Query) { q.Group, q.Aggs = nil, nil },
		func(q *api.Query) { q.Sort = []api.By{{Out: 2}} },
		func(q *api.Query) { q.Sort = []api.By{{Out: -1}} },
	} {
		q := api.Query{Group: []int{0}, Aggs: []api.Agg{{Fn: api.Count, Col: -1}}}
		wantOuts(t, wide(), q, api.Int, api.Int)
		change(&q)
		if l := Outs(wide(), q); len(l) != 0 || Check(wide(), q) == api.OK {
			t.Errorf("change %d: %v, error %d", i, l, Check(wide(), q))
		}
	}
}

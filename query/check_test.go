package query

import (
	"math"
	"slices"
	"testing"

	"winnower/api"
)

func TestExamples(t *testing.T) {
	wantCheck(t, wide(), api.Query{Cols: []int{0}, Limit: 5}, api.OK)
	wantCheck(t, wide(), api.Query{Aggs: []api.Agg{{Fn: api.Sum, Col: 2}}}, api.ErrKind)
	wantCheck(t, bare(api.Col{Name: "a", Kind: api.Str}), api.Query{Aggs: []api.Agg{{Fn: api.Sum, Col: 0}}}, api.ErrKind)
}

// badSchemas are schemas that are not valid, most of them by one thing.
func badSchemas() map[string]api.Schema {
	changed := func(change func(s *api.Schema)) api.Schema {
		s := wide()
		s.Key, s.Cmp, s.Del, s.Sort = 0, 6, 4, 3
		change(&s)
		return s
	}
	return map[string]api.Schema{
		"the zero schema":          {},
		"no column":                bare(),
		"9 columns":                changed(func(s *api.Schema) { s.Cols = append(s.Cols, api.Col{Name: "ninth", Kind: api.Int}) }),
		"a name of no byte":        changed(func(s *api.Schema) { s.Cols[7].Name = "" }),
		"a name of 17 bytes":       changed(func(s *api.Schema) { s.Cols[7].Name = letters(17) }),
		"a capital letter":         changed(func(s *api.Schema) { s.Cols[7].Name = "B" }),
		"two columns of one name":  changed(func(s *api.Schema) { s.Cols[7].Name = "b" }),
		"a column of kind Null":    changed(func(s *api.Schema) { s.Cols[5].Kind = api.Null }),
		"a kind above":             changed(func(s *api.Schema) { s.Cols[7].Kind = 4 }),
		"a kind below":             changed(func(s *api.Schema) { s.Cols[7].Kind = -1 }),
		"a Key that is nullable":   changed(func(s *api.Schema) { s.Key = 1 }),
		"a Cmp without a Key":      changed(func(s *api.Schema) { s.Key, s.Del = -1, -1 }),
		"a Key without a Cmp":      changed(func(s *api.Schema) { s.Cmp = -1 }),
		"a Del of integers":        changed(func(s *api.Schema) { s.Del = 6 }),
		"a Sort above the columns": changed(func(s *api.Schema) { s.Sort = 8 }),
		"a Sort below":             changed(func(s *api.Schema) { s.Sort = -2 }),
	}
}

// TestCheckOfInvalidSchemas has queries that are valid, and ones with an error of each later kind.
func TestCheckOfInvalidSchemas(t *testing.T) {
	queries := []api.Query{
		{},
		{Cols: []int{0}, Limit: 5},
		{Aggs: []api.Agg{{Fn: api.Count, Col: -1}}, Limit: 5},
		{Filter: make([]api.Node, 33), Cols: []int{0}},
		{Cols: []int{0}, Limit: -1},
		{Filter: []api.Node{{Ask: api.Asks}}, Cols: []int{0}},
		{Filter: []api.Node{{Ask: api.Is, Col: 99}}, Cols: []int{0}},
		{Filter: []api.Node{{Ask: api.Not}}, Cols: []int{0}},
		{Cols: []int{99}},
		{Aggs: []api.Agg{{Fn: api.Sum, Col: 2}}},
		{Cols: []int{0}, Sort: []api.By{{Out: 1}}},
	}
	for name, s := range badSchemas() {
		t.Run(name, func(t *testing.T) {
			for _, q := range queries {
				if e := Check(s, q); e != api.ErrArg {
					t.Errorf("Check of %+v: error %d", q, e)
				}
				wantOuts(t, s, q)
			}
		})
	}
}

func TestCheckOfValidSchemas(t *testing.T) {
	keyed := wide()
	keyed.Key, keyed.Cmp, keyed.Del, keyed.Sort = 0, 6, 4, 3
	withoutDel := wide()
	withoutDel.Key, withoutDel.Cmp = 2, 0
	for _, s := range []api.Schema{wide(), keyed, withoutDel, three(), bare(api.Col{Name: "abcdefghij_01289", Kind: api.Bool, Null: true})} {
		compare(t, s, api.Query{})
		wantCheck(t, s, api.Query{Cols: []int{0}}, api.OK)
		wantCheck(t, s, api.Query{Cols: []int{len(s.Cols) - 1}}, api.OK)
		wantCheck(t, s, api.Query{Cols: []int{len(s.Cols)}}, api.ErrNone)
		wantCheck(t, s, api.Query{Filter: []api.Node{{Ask: api.Is, Col: len(s.Cols) - 1}}, Cols: []int{0}}, api.OK)
	}
}

// lengths are, for each list of a query, how many elements it may have, and how it gets so many good ones.
func lengths() map[string]struct {
	most int
	set  func(q *api.Query, count int)
} {
	return map[string]struct {
		most int
		set  func(q *api.Query, count int)
	}{
		"Filter": {32, func(q *api.Query, count int) { q.Filter = make([]api.Node, count) }},
		"Cols":   {8, func(q *api.Query, count int) { q.Cols, q.Group, q.Aggs = make([]int, count), nil, nil }},
		"Group":  {4, func(q *api.Query, count int) { q.Group = make([]int, count) }},
		"Aggs":   {4, func(q *api.Query, count int) { q.Aggs = slices.Repeat([]api.Agg{{Fn: api.Count, Col: -1}}, count) }},
		"Sort":   {4, func(q *api.Query, count int) { q.Sort = make([]api.By, count) }},
	}
}

func TestCheckOfLengths(t *testing.T) {
	for name, list := range lengths() {
		t.Run(name, func(t *testing.T) {
			for _, count := range []int{1, 2, list.most - 1, list.most, list.most + 1, list.most + 2, 2 * list.most, 64, 1 << 16} {
				q := api.Query{Group: []int{0}, Aggs: []api.Agg{{Fn: api.Count, Col: -1}}}
				list.set(&q, count)
				want := api.OK
				if count > list.most {
					want = api.ErrLong
				}
				wantCheck(t, wide(), q, want)
			}
		})
	}
	// With all lists as long as they may be, and with one of them longer.
	full := func() api.Query {
		var q api.Query
		for _, name := range []string{"Filter", "Group", "Aggs", "Sort"} {
			lengths()[name].set(&q, lengths()[name].most)
		}
		q.Limit = 4096
		return q
	}
	wantCheck(t, wide(), full(), api.OK)
	for name, list := range lengths() {
		q := full()
		list.set(&q, list.most+1)
		if e := Check(wide(), q); e != api.ErrLong {
			t.Errorf("one more in %s: error %d", name, e)
		}
	}
}

// TestCheckOfEmptyLists has none of each, as nil and as an empty list.
func TestCheckOfEmptyLists(t *testing.T) {
	for _, q := range []api.Query{{}, {Filter: []api.Node{}, Cols: []int{}, Group: []int{}, Aggs: []api.Agg{}, Sort: []api.By{}}} {
		wantCheck(t, wide(), q, api.ErrState)
		cols, group, aggs := copied(q), copied(q), copied(q)
		cols.Cols = []int{7}
		group.Group = []int{7}
		aggs.Aggs = []api.Agg{{Fn: api.Max, Col: 7}}
		for _, q := range []api.Query{cols, group, aggs} {
			wantCheck(t, wide(), q, api.OK)
			wantOuts(t, wide(), q, api.Bool)
			wantUses(t, q, 7)
		}
	}
}

func TestCheckOfLimit(t *testing.T) {
	for _, limit := range append(numbers(4096), -4096, -4097, 8192, 1<<40) {
		want := api.ErrLong
		if limit >= 0 && limit <= 4096 {
			want = api.OK
		}
		wantCheck(t, wide(), api.Query{Cols: []int{0}, Limit: limit}, want)
		wantCheck(t, wide(), api.Query{Group: []int{0}, Limit: limit}, want)
		wantCheck(t, wide(), api.Query{Aggs: []api.Agg{{Fn: api.Count, Col: -1}}, Limit: limit}, want)
	}
}

// TestCheckOfColumns has each number as an element of Cols and of Group, among others.
func TestCheckOfColumns(t *testing.T) {
	for _, s := range []api.Schema{wide(), three(), bare(api.Col{Name: "a", Kind: api.Str})} {
		for _, col := range numbers(len(s.Cols)) {
			want := api.ErrNone
			if col >= 0 && col < len(s.Cols) {
				want = api.OK
			}
			for _, cols := range [][]int{{col}, {col, 0}, {0, col}, {0, col, 0}, {0, 0, 0, col}, {col, col}} {
				wantCheck(t, s, api.Query{Cols: cols}, want)
				wantCheck(t, s, api.Query{Group: cols}, want)
				wantCheck(t, s, api.Query{Group: cols, Aggs: []api.Agg{{Fn: api.Count, Col: -1}}}, want)
			}
		}
	}
	for n := range 8 {
		cols := []int{7, 7, 3, 2, 1, 0, 0, 5}
		wantCheck(t, wide(), api.Query{Cols: cols}, api.OK)
		cols[n] = 8
		wantCheck(t, wide(), api.Query{Cols: cols}, api.ErrNone)
	}
}

// TestCheckOfParts has each combination of Cols, Group and Aggs.
func TestCheckOfParts(t *testing.T) {
	for cols := range 3 {
		for group := range 3 {
			for aggs := range 3 {
				q := api.Query{Cols: make([]int, cols), Group: make([]int, group), Aggs: slices.Repeat([]api.Agg{{Fn: api.Sum, Col: 0}}, aggs)}
				want := api.OK
				if cols > 0 && group+aggs > 0 || cols+group+aggs == 0 {
					want = api.ErrState
				}
				wantCheck(t, wide(), q, want)
				// A filter and an order are none of the three.
				q.Filter = []api.Node{{Ask: api.Is, Col: 1}}
				q.Limit = 9
				wantCheck(t, wide(), q, want)
				q.Sort = []api.By{{Out: 0}}
				wantCheck(t, wide(), q, want)
			}
		}
	}
}

// sortable are queries, by the number of their outputs.
func sortable() []api.Query {
	var l []api.Query
	for n := range 8 {
		l = append(l, api.Query{Cols: make([]int, n+1)})
	}
	for group := range 5 {
		for aggs := range 5 {
			if group+aggs > 0 {
				l = append(l, api.Query{Group: make([]int, group), Aggs: slices.Repeat([]api.Agg{{Fn: api.Count, Col: -1}}, aggs)})
			}
		}
	}
	return l
}

func TestCheckOfSort(t *testing.T) {
	for _, q := range sortable() {
		outputs := len(q.Cols) + len(q.Group) + len(q.Aggs)
		for _, out := range numbers(outputs) {
			want := api.ErrNone
			if out >= 0 && out < outputs {
				want = api.OK
			}
			last := outputs - 1
			for _, outs := range [][]int{{out}, {0, out}, {out, last}, {out, out}, {last, 0, out, 0}, {0, last, 0, out}} {
				for _, desc := range []bool{false, true} {
					q.Sort = nil
					for i, out := range outs {
						q.Sort = append(q.Sort, api.By{Out: out, Desc: desc != (i == 1)})
					}
					wantCheck(t, wide(), q, want)
				}
			}
		}
	}
}

// TestCheckOfSortWithoutOutputs: that there are none comes ahead.
func TestCheckOfSortWithoutOutputs(t *testing.T) {
	for _, out := range []int{math.MinInt, -1, 0, 1, math.MaxInt} {
		wantCheck(t, wide(), api.Query{Sort: []api.By{{Out: out}}}, api.ErrState)
		wantCheck(t, wide(), api.Query{Cols: []int{0}, Group: []int{0}, Sort: []api.By{{Out: out}}}, api.ErrState)
	}
}

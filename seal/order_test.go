package seal

import (
	"math"
	"slices"
	"testing"

	"winnower/api"
)

func wantOrder(t *testing.T, s api.Schema, l [][]api.Value, want ...int) {
	t.Helper()
	if order := Order(s, l); !slices.Equal(order, want) {
		t.Errorf("Order of %v: %v, not %v", l, order, want)
	}
}

func TestExample(t *testing.T) {
	s := of(0, api.Col{Name: "n", Kind: api.Int})
	wantOrder(t, s, single(integers(7, 3, 7)...), 1, 0, 2)
	wantBuild(t, s, head(0, 1, 0, 3), single(integers(7, 3, 7)...), []int{0, 1, 2})
}

func TestOrderBySort(t *testing.T) {
	for name, c := range map[string]struct {
		kind   int
		values []api.Value
		want   []int
	}{
		"no row":           {api.Int, nil, nil},
		"one row":          {api.Int, integers(5), []int{0}},
		"one Null":         {api.Str, []api.Value{null()}, []int{0}},
		"sorted":           {api.Int, integers(-1, 0, 1, 2), []int{0, 1, 2, 3}},
		"reversed":         {api.Int, integers(2, 1, 0, -1), []int{3, 2, 1, 0}},
		"all equal":        {api.Int, integers(4, 4, 4, 4, 4), []int{0, 1, 2, 3, 4}},
		"all Null":         {api.Bool, []api.Value{null(), null(), null()}, []int{0, 1, 2}},
		"some equal":       {api.Int, integers(2, 1, 2, 1, 2, 0), []int{5, 1, 3, 0, 2, 4}},
		"Null last":        {api.Int, []api.Value{integer(0), integer(math.MinInt), null()}, []int{2, 1, 0}},
		"Null twice":       {api.Int, []api.Value{null(), integer(-3), null(), integer(-3)}, []int{0, 2, 1, 3}},
		"far integers":     {api.Int, integers(math.MaxInt, math.MinInt, 0, -1, math.MaxInt-1), []int{1, 3, 2, 4, 0}},
		"close integers":   {api.Int, integers(1<<53+1, 1<<53, 1<<53-1), []int{2, 1, 0}},
		"strings":          {api.Str, []api.Value{str("b"), str("a"), str(""), null(), str("aa"), str("B")}, []int{3, 2, 5, 1, 4, 0}},
		"strings of bytes": {api.Str, []api.Value{str("\xff"), str("é"), str("z"), str("10"), str("9"), str("\x00")}, []int{5, 3, 4, 2, 1, 0}},
		"long strings":     {api.Str, []api.Value{str(letters(64)), str(letters(63)), str(letters(64))}, []int{1, 0, 2}},
		"truths":           {api.Bool, []api.Value{boolean(true), boolean(false), null(), boolean(true), boolean(false)}, []int{2, 1, 4, 0, 3}},
	} {
		t.Run(name, func(t *testing.T) {
			l := single(c.values...)
			wantOrder(t, one(c.kind), l, c.want...)
			wantBuild(t, one(c.kind), head(1, 2, 3, 100), l, from(5, len(l), 7))
			// The same rows as they are.
			s := one(c.kind)
			s.Sort = -1
			wantOrder(t, s, l, from(0, len(l), 1)...)
			wantBuild(t, s, head(1, 2, 3, 100), l, from(5, len(l), 7))
		})
	}
}

// TestOrderByOneColumn sorts rows whose columns are in different orders.
func TestOrderByOneColumn(t *testing.T) {
	l := paired([2]int{1, 9}, [2]int{3, 8}, [2]int{1, 7}, [2]int{2, 9}, [2]int{3, 7})
	wantOrder(t, two(0), l, 0, 2, 3, 1, 4)
	wantOrder(t, two(1), l, 2, 4, 1, 0, 3)
	wantOrder(t, two(-1), l, 0, 1, 2, 3, 4)
}

// TestOrderHeedsNoKey has a schema with a key, by which nothing is sorted.
func TestOrderHeedsNoKey(t *testing.T) {
	s := two(-1)
	s.Key, s.Cmp = 0, 1
	l := paired([2]int{2, 1}, [2]int{1, 2}, [2]int{2, 0})
	wantOrder(t, s, l, 0, 1, 2)
	s.Sort = 1
	wantOrder(t, s, l, 2, 0, 1)
	// Rows of one key, and rows that are the same, all stay.
	wantOrder(t, s, paired([2]int{2, 1}, [2]int{2, 1}, [2]int{2, 0}), 2, 0, 1)
}

func TestOrderOfManyRows(t *testing.T) {
	for _, count := range []int{1, 2, 3, 12, 13, 100, 4095, 4096, 4097, 5000} {
		for _, values := range []int{1, 2, 10, 5000} {
			l := make([][]api.Value, count)
			for i := range l {
				l[i] = integers(i*7919%values, i)
			}
			for sort := -1; sort < 2; sort++ {
				order := Order(two(sort), l)
				if len(order) != count {
					t.Fatalf("%d of %d rows", len(order), count)
				}
				for i := 1; i < count; i++ {
					a, b := order[i-1], order[i]
					first := sort == 0 && l[a][0].I < l[b][0].I
					same := sort != 0 || l[a][0] == l[b][0]
					if !first && !(same && a < b) {
						t.Fatalf("%d rows of %d values by %d: row %d, then row %d", count, values, sort, a, b)
					}
				}
			}
		}
	}
}

// TestOrderOfAllShortLists has all lists of up to five rows of three values.
func TestOrderOfAllShortLists(t *testing.T) {
	values := []api.Value{null(), str(""), str("a")}
	for count := range 6 {
		lists := 1
		for range count {
			lists *= len(values)
		}
		for list := range lists {
			var l [][]api.Value
			for range count {
				l = append(l, []api.Value{values[list%len(values)]})
				list /= len(values)
			}
			wantOrder(t, one(api.Str), l, modelOrder(one(api.Str), l)...)
		}
	}
}

func TestOrderOfInvalidSchemas(t *testing.T) {
	for name, s := range badSchemas() {
		fitting := make([]api.Value, len(s.Cols))
		for k, c := range s.Cols {
			fitting[k] = api.Value{Kind: c.Kind}
		}
		for _, l := range [][][]api.Value{nil, {}, {nil}, {{}}, single(integers(1, 2)...), paired([2]int{1, 2}), {fitting, fitting}} {
			if order := Order(s, l); len(order) != 0 {
				t.Errorf("%s: %v", name, order)
			}
			for _, x := range []api.Segment{head(0, 1, 0, 10), {}} {
				wantError(t, s, x, l, from(0, len(l), 1), api.ErrArg)
			}
		}
	}
}

// unfit are rows that do not fit the schema all, each by what the name tells.
func unfit() map[string][]api.Value {
	with := func(k int, v api.Value) []api.Value {
		row := rowOfAll()
		row[k] = v
		return row
	}
	return map[string][]api.Value{
		"no row":                   nil,
		"no value":                 {},
		"a value too few":          rowOfAll()[:7],
		"a value too many":         append(rowOfAll(), integer(1)),
		"a Null too many":          append(rowOfAll(), null()),
		"Null for an integer":      with(0, null()),
		"Null in the last column":  with(7, null()),
		"a string for an integer":  with(1, str("1")),
		"an integer for a string":  with(3, integer(0)),
		"an integer for a truth":   with(4, integer(1)),
		"a truth for a string":     with(2, boolean(true)),
		"a kind below":             with(0, api.Value{Kind: -1}),
		"a kind above":             with(3, api.Value{Kind: 4}),
		"a string of 65 bytes":     with(2, str(letters(65))),
		"Null with an integer":     with(1, api.Value{I: 1}),
		"an integer with a string": with(6, api.Value{Kind: api.Int, I: 1, S: "a"}),
		"a truth with an integer":  with(7, api.Value{Kind: api.Bool, B: true, I: 1}),
	}
}

func TestRowsThatDoNotFit(t *testing.T) {
	for name, row := range unfit() {
		for count := 1; count < 6; count++ {
			for at := range count {
				l := slices.Repeat([][]api.Value{rowOfAll()}, count)
				for sort := -1; sort < 8; sort++ {
					wantOrder(t, all(sort), l, from(0, count, 1)...)
				}
				wantBuild(t, all(3), head(3, 9, 0, 100), l, from(1, count, 2))
				l[at] = row
				for sort := -1; sort < 8; sort++ {
					if order := Order(all(sort), l); len(order) != 0 {
						t.Errorf("%s, row %d of %d: %v", name, at, count, order)
					}
				}
				wantError(t, all(3), head(3, 9, 0, 100), l, from(1, count, 2), api.ErrArg)
			}
		}
	}
}

package upsert

import (
	"math"
	"slices"
	"testing"

	"winnower/api"
)

func wantNoNew(t *testing.T, s api.Schema) {
	t.Helper()
	if table, e := New(s); table != nil || e != api.ErrArg {
		t.Errorf("New of %v: %v, error %d", s, table, e)
	}
}

func TestNew(t *testing.T) {
	longest := api.Col{Name: "abcdefghij_01289", Kind: api.Int}
	sorted := keyed()
	sorted.Sort = 1
	for _, s := range []api.Schema{
		keyed(), withoutDel(), withoutKey(), sorted, wide(0, 6, 4), wide(2, 0, 7), wide(4, 0, -1), wide(-1, -1, -1),
		with(-1, -1, -1, longest), with(0, 0, -1, longest), with(-1, -1, -1, api.Col{Name: "a", Kind: api.Str, Null: true}),
	} {
		empty(t, s).compare(t)
	}
}

// badSchemas are schemas that are not valid, most of them by one thing.
func badSchemas() map[string]api.Schema {
	bare := func(cols ...api.Col) api.Schema { return with(-1, -1, -1, cols...) }
	changed := func(change func(s *api.Schema)) api.Schema {
		s := wide(0, 6, 4)
		change(&s)
		return s
	}
	return map[string]api.Schema{
		"the zero schema":           {},
		"no column":                 bare(),
		"no column, a Key":          with(0, 0, -1),
		"9 columns":                 changed(func(s *api.Schema) { s.Cols = append(s.Cols, api.Col{Name: "ninth", Kind: api.Int}) }),
		"a name of no byte":         bare(api.Col{Kind: api.Int}),
		"a name of 17 bytes":        bare(api.Col{Name: letters(17), Kind: api.Int}),
		"a capital letter":          bare(api.Col{Name: "aB", Kind: api.Int}),
		"a dash":                    bare(api.Col{Name: "a-b", Kind: api.Int}),
		"two columns of one name":   bare(api.Col{Name: "a", Kind: api.Int}, api.Col{Name: "a", Kind: api.Str}),
		"a column of kind Null":     bare(api.Col{Name: "a", Kind: api.Null, Null: true}),
		"a kind above":              bare(api.Col{Name: "a", Kind: 4}),
		"a kind below":              bare(api.Col{Name: "a", Kind: -1}),
		"a Key that is nullable":    changed(func(s *api.Schema) { s.Key = 1 }),
		"a Cmp that is nullable":    changed(func(s *api.Schema) { s.Cmp = 1 }),
		"a Del that is nullable":    changed(func(s *api.Schema) { s.Del = 5 }),
		"a Cmp without a Key":       changed(func(s *api.Schema) { s.Key, s.Del = -1, -1 }),
		"a Del without a Key":       changed(func(s *api.Schema) { s.Key, s.Cmp = -1, -1 }),
		"a Key without a Cmp":       changed(func(s *api.Schema) { s.Cmp = -1 }),
		"a Cmp of texts":            changed(func(s *api.Schema) { s.Cmp = 2 }),
		"a Cmp of truths":           changed(func(s *api.Schema) { s.Cmp = 7 }),
		"a Del of integers":         changed(func(s *api.Schema) { s.Del = 6 }),
		"a Del of texts":            changed(func(s *api.Schema) { s.Del = 2 }),
		"a Key above the columns":   changed(func(s *api.Schema) { s.Key = 8 }),
		"a Cmp above the columns":   changed(func(s *api.Schema) { s.Cmp = 8 }),
		"a Del above the columns":   changed(func(s *api.Schema) { s.Del = 8 }),
		"a Sort above the columns":  changed(func(s *api.Schema) { s.Sort = 8 }),
		"a Sort below":              changed(func(s *api.Schema) { s.Sort = -2 }),
		"the greatest Key":          changed(func(s *api.Schema) { s.Key = math.MaxInt }),
		"the least Key":             changed(func(s *api.Schema) { s.Key = math.MinInt }),
		"a Key below":               changed(func(s *api.Schema) { s.Key = -2 }),
		"a Key below, nothing else": changed(func(s *api.Schema) { s.Key, s.Cmp, s.Del = -2, -1, -1 }),
	}
}

func TestNewOfInvalidSchemas(t *testing.T) {
	for name, s := range badSchemas() {
		t.Run(name, func(t *testing.T) { wantNoNew(t, s) })
	}
}

// TestNewOfEachKeyCmpAndDel has all numbers of the columns of wide, and some beyond.
func TestNewOfEachKeyCmpAndDel(t *testing.T) {
	// What wide has at these numbers, not nullable.
	keys, integers, truths := []int{0, 2, 4, 6, 7}, []int{0, 6}, []int{4, 7}
	valid := 0
	for key := -2; key < 10; key++ {
		for cmp := -2; cmp < 10; cmp++ {
			for del := -2; del < 10; del++ {
				s := wide(key, cmp, del)
				unkeyed := key == -1 && cmp == -1 && del == -1
				if !unkeyed && !(slices.Contains(keys, key) && slices.Contains(integers, cmp) && (del == -1 || slices.Contains(truths, del))) {
					wantNoNew(t, s)
					continue
				}
				valid++
				empty(t, s).compare(t)
			}
		}
	}
	if valid != 1+5*2*3 {
		t.Errorf("%d schemas are valid", valid)
	}
}

// TestNilTable: it is empty, and nothing can be added or sealed.
func TestNilTable(t *testing.T) {
	var table *Table
	wantEmpty := func() {
		t.Helper()
		for _, key := range strangers() {
			if w, there := table.Find(key); there || w != (api.Winner{}) {
				t.Fatalf("Find of %v: %v, %t", key, w, there)
			}
		}
		for _, seg := range []int{0, 1, 2, greatestID, greatestID + 1, -1, math.MinInt, math.MaxInt} {
			if l := slices.Collect(table.Valid(seg).All()); len(l) != 0 {
				t.Fatalf("Valid of %d: %v", seg, l)
			}
		}
		if n := table.Keys(); n != 0 {
			t.Fatalf("Keys: %d", n)
		}
	}
	wantEmpty()
	for _, l := range [][]api.Value{nil, {}, row(1, 5, false), {integer(1)}} {
		for _, at := range []api.Place{{}, {Seg: 1}, {Doc: 1}, {Seg: -1}, {Doc: greatestDoc + 1}} {
			for _, offset := range []int{0, 1, farthest, farthest + 1, -1} {
				if e := table.Add(l, at, offset); e != api.ErrArg {
					t.Errorf("Add of %v at %v and %d: error %d", l, at, offset, e)
				}
			}
		}
	}
	for _, id := range []int{math.MinInt, -1, 0, 1, 2, greatestID, greatestID + 1, math.MaxInt} {
		for _, order := range [][]int{nil, {}, {0}, {1}, {0, 1}} {
			if e := table.Seal(id, order); e != api.ErrArg {
				t.Errorf("Seal to %d in the order %v: error %d", id, order, e)
			}
		}
	}
	wantEmpty()
}

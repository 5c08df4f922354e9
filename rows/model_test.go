package rows

import (
	"math"
	"slices"
	"strings"
	"testing"

	"winnower/api"
)

func null() api.Value          { return api.Value{Kind: api.Null} }
func integer(n int) api.Value  { return api.Value{Kind: api.Int, I: n} }
func str(s string) api.Value   { return api.Value{Kind: api.Str, S: s} }
func boolean(b bool) api.Value { return api.Value{Kind: api.Bool, B: b} }
func letters(count int) string { return strings.Repeat("x", count) }

func integers(l ...int) []api.Value {
	var out []api.Value
	for _, n := range l {
		out = append(out, integer(n))
	}
	return out
}

// bare is a schema of these columns, without a key and a column to sort by.
func bare(cols ...api.Col) api.Schema {
	return api.Schema{Cols: cols, Key: -1, Cmp: -1, Del: -1, Sort: -1}
}

// one has a single column, of integers.
func one() api.Schema { return bare(api.Col{Name: "n", Kind: api.Int}) }

// three has three columns, of integers.
func three() api.Schema {
	return bare(api.Col{Name: "a", Kind: api.Int}, api.Col{Name: "b", Kind: api.Int}, api.Col{Name: "c", Kind: api.Int})
}

// all has every kind of column, nullable and not, and two more; it has all numbers of columns.
func all() api.Schema {
	s := bare(
		api.Col{Name: "i", Kind: api.Int}, api.Col{Name: "i_null", Kind: api.Int, Null: true},
		api.Col{Name: "s", Kind: api.Str}, api.Col{Name: "s_null", Kind: api.Str, Null: true},
		api.Col{Name: "b", Kind: api.Bool}, api.Col{Name: "b_null", Kind: api.Bool, Null: true},
		api.Col{Name: "i2", Kind: api.Int}, api.Col{Name: "b2", Kind: api.Bool},
	)
	s.Key, s.Cmp, s.Del, s.Sort = 0, 6, 4, 3
	return s
}

// rowOfAll fits the schema all.
func rowOfAll() []api.Value {
	return []api.Value{integer(1), null(), str("a"), null(), boolean(false), null(), integer(-3), boolean(true)}
}

// model is a collection as the chapter defines it: a list of rows and their offsets.
type model struct {
	cols         []api.Col
	most, values int
	rows         [][]api.Value
	offsets      []int
}

// valid tells whether v may be a value of c: it has the kind and no fields of other kinds.
func valid(c api.Col, v api.Value) bool {
	switch v.Kind {
	case api.Null:
		return c.Null && v == null()
	case api.Int:
		return c.Kind == api.Int && v == integer(v.I)
	case api.Str:
		return c.Kind == api.Str && v == str(v.S) && len(v.S) <= 64
	}
	return c.Kind == api.Bool && v == boolean(v.B)
}

func (m *model) fits(row []api.Value) bool {
	if len(row) != len(m.cols) {
		return false
	}
	for k, c := range m.cols {
		if !valid(c, row[k]) {
			return false
		}
	}
	return true
}

// column is the values of column k of all rows.
func (m *model) column(k int) []api.Value {
	var l []api.Value
	for _, row := range m.rows {
		l = append(l, row[k])
	}
	return l
}

// distinct is how many different values l has.
func distinct(l []api.Value) int {
	counts := map[api.Value]int{}
	for _, v := range l {
		counts[v]++
	}
	return len(counts)
}

// overfull tells whether row would bring one more value to a column that has all it may have.
func (m *model) overfull(row []api.Value) bool {
	for k := range m.cols {
		if l := m.column(k); distinct(l) == m.values && !slices.Contains(l, row[k]) {
			return true
		}
	}
	return false
}

func (m *model) append(row []api.Value, offset int) (int, api.Errno) {
	if !m.fits(row) || offset < 0 || offset > 1<<40 {
		return 0, api.ErrArg
	}
	for _, o := range m.offsets {
		if offset <= o {
			return 0, api.ErrState
		}
	}
	if len(m.rows) >= m.most || m.overfull(row) {
		return 0, api.ErrFull
	}
	m.rows = append(m.rows, slices.Clone(row))
	m.offsets = append(m.offsets, offset)
	return len(m.rows) - 1, api.OK
}

// pair is a collection and its model.
type pair struct {
	r *Rows
	m *model
}

// empty is a collection without rows, and its model.
func empty(t testing.TB, s api.Schema, most, values int) pair {
	t.Helper()
	r, e := New(s, most, values)
	if e != api.OK || r == nil {
		t.Fatalf("New of %d rows and %d values: error %d", most, values, e)
	}
	return pair{r, &model{cols: slices.Clone(s.Cols), most: most, values: values}}
}

// append appends to both and compares what they return.
func (p pair) append(t testing.TB, row []api.Value, offset int) api.Errno {
	t.Helper()
	number, want := p.m.append(row, offset)
	if n, e := p.r.Append(row, offset); n != number || e != want {
		t.Fatalf("Append of %#v at %d to %d rows: %d, error %d, not %d, error %d", row, offset, len(p.m.rows), n, e, number, want)
	}
	return want
}

// compare compares all that both tell.
func (p pair) compare(t testing.TB) {
	t.Helper()
	if n := p.r.Len(); n != len(p.m.rows) {
		t.Fatalf("Len: %d, not %d", n, len(p.m.rows))
	}
	if l := p.r.Offsets(); !slices.Equal(l, p.m.offsets) {
		t.Fatalf("Offsets: %v, not %v", l, p.m.offsets)
	}
	for i, want := range p.m.rows {
		if row, offset, there := p.r.At(i); !there || offset != p.m.offsets[i] || !slices.Equal(row, want) {
			t.Fatalf("At(%d): %#v, %d, %t, not %#v, %d", i, row, offset, there, want, p.m.offsets[i])
		}
	}
	for _, i := range []int{math.MinInt, -len(p.m.rows), -1, len(p.m.rows), len(p.m.rows) + 1, p.m.most, math.MaxInt} {
		if i >= 0 && i < len(p.m.rows) {
			continue
		}
		if row, offset, there := p.r.At(i); there || offset != 0 || len(row) != 0 {
			t.Fatalf("At(%d) of %d rows: %#v, %d, %t", i, len(p.m.rows), row, offset, there)
		}
	}
	p.compareColumns(t)
}

func (p pair) compareColumns(t testing.TB) {
	t.Helper()
	for k := range p.m.cols {
		want := p.m.column(k)
		if l := p.r.Column(k); !slices.Equal(l, want) {
			t.Fatalf("Column(%d): %#v, not %#v", k, l, want)
		}
		if n := p.r.Values(k); n != distinct(want) {
			t.Fatalf("Values(%d): %d, not %d", k, n, distinct(want))
		}
	}
	for _, k := range []int{math.MinInt, -len(p.m.cols), -1, len(p.m.cols), len(p.m.cols) + 1, math.MaxInt} {
		if l, n := p.r.Column(k), p.r.Values(k); len(l) != 0 || n != 0 {
			t.Fatalf("Column and Values of %d, of %d columns: %#v, %d", k, len(p.m.cols), l, n)
		}
	}
}

// wantAppend appends to both, where the error is as told, and compares them.
func (p pair) wantAppend(t testing.TB, row []api.Value, offset int, want api.Errno) {
	t.Helper()
	if e := p.append(t, row, offset); e != want {
		t.Fatalf("Append of %#v at %d to %d rows: error %d, not %d", row, offset, len(p.m.rows), e, want)
	}
	p.compare(t)
}

// filled is a collection to which rows were appended, at the offsets 10, 20, 30 and so on.
func filled(t testing.TB, s api.Schema, most, values int, rows ...[]api.Value) pair {
	t.Helper()
	p := empty(t, s, most, values)
	for i, row := range rows {
		p.wantAppend(t, row, 10*(i+1), api.OK)
	}
	return p
}

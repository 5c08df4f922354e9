package seal

import (
	"bytes"
	"math"
	"slices"
	"strings"
	"testing"

	"winnower/api"
	"winnower/column"
	"winnower/schema"
	"winnower/value"
)

const farthest = 1 << 40

func null() api.Value          { return api.Value{Kind: api.Null} }
func integer(n int) api.Value  { return api.Value{Kind: api.Int, I: n} }
func str(s string) api.Value   { return api.Value{Kind: api.Str, S: s} }
func boolean(b bool) api.Value { return api.Value{Kind: api.Bool, B: b} }
func letters(count int) string { return strings.Repeat("x", count) }

func integers(l ...int) []api.Value {
	var out []api.Value
	for _, n := range l {
		out = append(out, integer(n))
	}
	return out
}

// single are rows of one value each.
func single(values ...api.Value) [][]api.Value {
	var l [][]api.Value
	for _, v := range values {
		l = append(l, []api.Value{v})
	}
	return l
}

// paired are rows of two integers each.
func paired(l ...[2]int) [][]api.Value {
	var rows [][]api.Value
	for _, p := range l {
		rows = append(rows, integers(p[0], p[1]))
	}
	return rows
}

// of is a schema of these columns, without a key, sorted by column sort.
func of(sort int, cols ...api.Col) api.Schema {
	return api.Schema{Cols: cols, Key: -1, Cmp: -1, Del: -1, Sort: sort}
}

// one has a single column of the kind, nullable, by which it is sorted.
func one(kind int) api.Schema { return of(0, api.Col{Name: "v", Kind: kind, Null: true}) }

// two has two columns of integers.
func two(sort int) api.Schema {
	return of(sort, api.Col{Name: "a", Kind: api.Int}, api.Col{Name: "b", Kind: api.Int})
}

// mixed has an integer and a string, which may be Null.
func mixed(sort int) api.Schema {
	return of(sort, api.Col{Name: "n", Kind: api.Int}, api.Col{Name: "s", Kind: api.Str, Null: true})
}

// all has every kind of column, nullable and not, and two more; it has all numbers of columns.
func all(sort int) api.Schema {
	s := of(sort,
		api.Col{Name: "i", Kind: api.Int}, api.Col{Name: "i_null", Kind: api.Int, Null: true},
		api.Col{Name: "s", Kind: api.Str}, api.Col{Name: "s_null", Kind: api.Str, Null: true},
		api.Col{Name: "b", Kind: api.Bool}, api.Col{Name: "b_null", Kind: api.Bool, Null: true},
		api.Col{Name: "i2", Kind: api.Int}, api.Col{Name: "b2", Kind: api.Bool},
	)
	s.Key, s.Cmp, s.Del = 0, 6, 4
	return s
}

// rowOfAll fits the schema all.
func rowOfAll() []api.Value {
	return []api.Value{integer(1), null(), str("a"), null(), boolean(false), null(), integer(-3), boolean(true)}
}

// badSchemas are schemas that are not valid, which some of the rows in these tests would fit otherwise.
func badSchemas() map[string]api.Schema {
	key := func(key, cmp, del, sort int) api.Schema {
		s := two(sort)
		s.Key, s.Cmp, s.Del = key, cmp, del
		return s
	}
	many := all(-1)
	many.Cols = append(many.Cols, api.Col{Name: "ninth", Kind: api.Int})
	return map[string]api.Schema{
		"the zero schema":         {},
		"no column":               of(-1),
		"no column, but Sort":     of(0),
		"9 columns":               many,
		"a name of no byte":       of(0, api.Col{Kind: api.Int}),
		"a capital letter":        of(0, api.Col{Name: "A", Kind: api.Int}),
		"two columns of one name": of(0, api.Col{Name: "a", Kind: api.Int}, api.Col{Name: "a", Kind: api.Int}),
		"a column of kind Null":   of(0, api.Col{Name: "a", Null: true}),
		"a kind above":            of(0, api.Col{Name: "a", Kind: 4}),
		"Cmp without Key":         key(-1, 0, -1, 0),
		"Key without Cmp":         key(0, -1, -1, 0),
		"Del of integers":         key(0, 1, 1, 0),
		"Sort below":              key(0, 1, -1, -2),
		"Sort above":              key(0, 1, -1, 2),
		"Sort far above":          key(-1, -1, -1, math.MaxInt),
		"Sort far below":          key(-1, -1, -1, math.MinInt),
	}
}

// head is a segment without rows.
func head(part, id, start, end int) api.Segment {
	return api.Segment{Part: part, ID: id, Start: start, End: end}
}

// from are count numbers, the first of them and the distance between two as told.
func from(first, count, step int) []int {
	var out []int
	for i := range count {
		out = append(out, first+i*step)
	}
	return out
}

// random returns numbers from 0 to below a bound, which depend on seed alone.
func random(seed int) func(bound int) int {
	state := uint64(seed)
	return func(bound int) int {
		state = state*6364136223846793005 + 1442695040888963407
		return int((state >> 33) % uint64(bound))
	}
}

// drawnValue is a value that c may have, one of some kinds.
func drawnValue(draw func(int) int, c api.Col, kinds int) api.Value {
	n := draw(kinds)
	switch {
	case c.Null && n == 0:
		return null()
	case c.Kind == api.Int:
		return integer((n - kinds/2) << (n % 40))
	case c.Kind == api.Str:
		return str(letters(n % 65))
	}
	return boolean(n%2 == 0)
}

func drawnRows(draw func(int) int, s api.Schema, count, kinds int) [][]api.Value {
	var l [][]api.Value
	for range count {
		var row []api.Value
		for _, c := range s.Cols {
			row = append(row, drawnValue(draw, c, kinds))
		}
		l = append(l, row)
	}
	return l
}

// drawnOffsets are count increasing offsets from start on.
func drawnOffsets(draw func(int) int, start, count int) []int {
	var l []int
	for range count {
		start += draw(4)
		l = append(l, start)
		start++
	}
	return l
}

// modelOrder places each row behind all that are not after it, one after the other.
func modelOrder(s api.Schema, l [][]api.Value) []int {
	var out []int
	for i, row := range l {
		at := len(out)
		for s.Sort >= 0 && at > 0 && value.Order(row[s.Sort], l[out[at-1]][s.Sort]) < 0 {
			at--
		}
		out = slices.Insert(out, at, i)
	}
	return out
}

// modelBuild is the segment of rows that may be built, in this order.
func modelBuild(s api.Schema, x api.Segment, l [][]api.Value, offsets, order []int) api.Segment {
	out := head(x.Part, x.ID, x.Start, x.End)
	for _, i := range order {
		out.Offsets = append(out.Offsets, offsets[i])
	}
	for k := range s.Cols {
		var values []api.Value
		for _, i := range order {
			values = append(values, l[i][k])
		}
		c, _ := column.Build(values)
		out.Cols = append(out.Cols, c)
	}
	return out
}

// modelRows are the rows of x, read value by value from its columns.
func modelRows(x api.Segment) [][]api.Value {
	out := make([][]api.Value, len(x.Offsets))
	for i := range out {
		for _, c := range x.Cols {
			v, there := column.At(c, i)
			if !there {
				out[i] = nil
				break
			}
			out[i] = append(out[i], v)
		}
	}
	return out
}

// modelMay holds each part of the definition against x, and each row against each other one.
func modelMay(s api.Schema, x api.Segment) bool {
	may := schema.May(s)
	may = may && x.Part >= 0 && x.Part <= 3 && x.ID >= 1 && x.ID <= 1<<30
	may = may && x.Start >= 0 && x.End >= x.Start && x.End <= 1<<40
	may = may && len(x.Offsets) <= 4096 && len(x.Cols) == len(s.Cols)
	for _, c := range x.Cols {
		may = may && column.May(c) && c.N == len(x.Offsets)
	}
	if !may {
		return false
	}
	rows := modelRows(x)
	for i, row := range rows {
		may = may && schema.Fits(s, row) && x.Offsets[i] >= x.Start && x.Offsets[i] <= x.End-1
		for j := range i {
			may = may && x.Offsets[i] != x.Offsets[j]
		}
		if may && i > 0 {
			may = modelFollows(s, rows[i-1], row, x.Offsets[i-1], x.Offsets[i])
		}
	}
	return may
}

// modelFollows tells whether row b, at offset p, may stand behind row a, at offset o.
func modelFollows(s api.Schema, a, b []api.Value, o, p int) bool {
	if s.Sort == -1 || a[s.Sort] == b[s.Sort] {
		return o < p
	}
	return value.Order(a[s.Sort], b[s.Sort]) < 0
}

func sameColumn(a, b api.Column) bool {
	return a.N == b.N && slices.Equal(a.Dict, b.Dict) && bytes.Equal(a.Ids, b.Ids)
}

func sameSegment(a, b api.Segment) bool {
	return a.Part == b.Part && a.ID == b.ID && a.Start == b.Start && a.End == b.End &&
		slices.Equal(a.Offsets, b.Offsets) && slices.EqualFunc(a.Cols, b.Cols, sameColumn)
}

func sameRows(a, b [][]api.Value) bool {
	return slices.EqualFunc(a, b, slices.Equal[[]api.Value])
}

// copied is a segment that shares nothing with x.
func copied(x api.Segment) api.Segment {
	x.Offsets, x.Cols = slices.Clone(x.Offsets), slices.Clone(x.Cols)
	for k, c := range x.Cols {
		x.Cols[k] = api.Column{N: c.N, Dict: slices.Clone(c.Dict), Ids: bytes.Clone(c.Ids)}
	}
	return x
}

func copiedRows(l [][]api.Value) [][]api.Value {
	l = slices.Clone(l)
	for i := range l {
		l[i] = slices.Clone(l[i])
	}
	return l
}

// built is the segment of rows that Build does not refuse.
func built(t testing.TB, s api.Schema, x api.Segment, l [][]api.Value, offsets []int) api.Segment {
	t.Helper()
	out, _, e := Build(s, x, l, offsets)
	if e != api.OK {
		t.Fatalf("Build of %d rows: error %d", len(l), e)
	}
	return out
}

// wantBuild checks that Build returns what the model does, and that this is valid.
func wantBuild(t testing.TB, s api.Schema, x api.Segment, l [][]api.Value, offsets []int) {
	t.Helper()
	out, order, e := Build(s, x, l, offsets)
	if e != api.OK {
		t.Fatalf("Build of %d rows at %v: error %d", len(l), offsets, e)
	}
	want := modelOrder(s, l)
	if !slices.Equal(order, want) || !slices.Equal(Order(s, l), want) {
		t.Fatalf("order %v, and by Order %v, not %v", order, Order(s, l), want)
	}
	if segment := modelBuild(s, x, l, offsets, want); !sameSegment(out, segment) {
		t.Fatalf("%#v, not %#v", out, segment)
	}
	if !May(s, out) {
		t.Fatalf("not valid: %#v", out)
	}
}

// wantError checks that Build returns the error and nothing else.
func wantError(t testing.TB, s api.Schema, x api.Segment, l [][]api.Value, offsets []int, want api.Errno) {
	t.Helper()
	out, order, e := Build(s, x, l, offsets)
	if e != want {
		t.Errorf("Build of %d rows at %d offsets: error %d, not %d", len(l), len(offsets), e, want)
	}
	if !sameSegment(out, api.Segment{}) || len(order) != 0 {
		t.Errorf("beside error %d: %#v, %v", e, out, order)
	}
}

// wantMay checks what May tells, and that the model tells the same.
func wantMay(t testing.TB, s api.Schema, x api.Segment, want bool) {
	t.Helper()
	if May(s, x) != want || modelMay(s, x) != want {
		t.Errorf("May: %t, and by the model %t, of %d offsets", May(s, x), modelMay(s, x), len(x.Offsets))
	}
}

// wantRows checks that the rows of x are those told, each alone and all together.
func wantRows(t testing.TB, x api.Segment, want [][]api.Value) {
	t.Helper()
	if got := Rows(x); !sameRows(got, want) {
		t.Fatalf("Rows: %#v, not %#v", got, want)
	}
	// Not each of many rows, because each Row checks the columns.
	for i := 0; i < len(want); i += 1 + len(want)/100 {
		wantRow(t, x, i, want[i])
	}
	if len(want) > 0 {
		wantRow(t, x, len(want)-1, want[len(want)-1])
	}
	for _, i := range []int{math.MinInt, -len(want), -2, -1, len(want), len(want) + 1, len(want) + 8, 4096, 1 << 40, math.MaxInt} {
		if i < 0 || i >= len(want) {
			wantRow(t, x, i, nil)
		}
	}
}

func wantRow(t testing.TB, x api.Segment, i int, want []api.Value) {
	t.Helper()
	if got := Row(x, i); !slices.Equal(got, want) {
		t.Fatalf("Row %d: %#v, not %#v", i, got, want)
	}
}

package rows

import (
	"math"
	"slices"
	"testing"

	"winnower/api"
)

const farthest = 1 << 40

// badSchemas are schemas that are not valid, most of them by one thing.
func badSchemas() map[string]api.Schema {
	key := func(key, cmp, del, sort int) api.Schema {
		s := all()
		s.Key, s.Cmp, s.Del, s.Sort = key, cmp, del, sort
		return s
	}
	many := all()
	many.Cols = append(many.Cols, api.Col{Name: "ninth", Kind: api.Int})
	return map[string]api.Schema{
		"the zero schema":         {},
		"no column":               bare(),
		"9 columns":               many,
		"a name of no byte":       bare(api.Col{Kind: api.Int}),
		"a name of 17 bytes":      bare(api.Col{Name: letters(17), Kind: api.Int}),
		"a capital letter":        bare(api.Col{Name: "aB", Kind: api.Int}),
		"two columns of one name": bare(api.Col{Name: "a", Kind: api.Int}, api.Col{Name: "a", Kind: api.Str}),
		"a column of kind Null":   bare(api.Col{Name: "a", Kind: api.Null, Null: true}),
		"a kind above":            bare(api.Col{Name: "a", Kind: 4}),
		"Cmp without Key":         key(-1, 0, -1, -1),
		"Key nullable":            key(1, 6, 4, 3),
		"Key above":               key(8, 6, 4, 3),
		"Key without Cmp":         key(0, -1, 4, 3),
		"Cmp of strings":          key(0, 2, 4, 3),
		"Del of integers":         key(0, 6, 0, 3),
		"Sort below":              key(0, 6, 4, -2),
		"Sort above":              key(0, 6, 4, 8),
	}
}

func wantNoNew(t *testing.T, s api.Schema, most, values int) {
	t.Helper()
	if r, e := New(s, most, values); r != nil || e != api.ErrArg {
		t.Errorf("New of %d columns, %d rows, %d values: %v, error %d", len(s.Cols), most, values, r, e)
	}
}

func TestNew(t *testing.T) {
	for _, s := range []api.Schema{one(), three(), all(), bare(api.Col{Name: "a", Kind: api.Bool, Null: true})} {
		for _, most := range []int{1, 2, 4095, 4096} {
			for _, values := range []int{1, 2, 4095, 4096} {
				empty(t, s, most, values).compare(t)
			}
		}
	}
}

func TestNewOfInvalidArguments(t *testing.T) {
	bad := []int{math.MinInt, -4096, -1, 0, 4097, 4096 + 1<<32, math.MaxInt}
	for _, n := range bad {
		for _, other := range append([]int{1, 7, 4096}, bad...) {
			wantNoNew(t, one(), n, other)
			wantNoNew(t, all(), other, n)
		}
	}
	for name, s := range badSchemas() {
		for _, n := range append([]int{1, 4096}, bad...) {
			for _, other := range []int{1, 4096, 0, 4097, -1} {
				if r, e := New(s, n, other); r != nil || e != api.ErrArg {
					t.Errorf("New of a schema with %s, %d, %d: %v, error %d", name, n, other, r, e)
				}
			}
		}
	}
}

func TestExample(t *testing.T) {
	p := empty(t, one(), 2, 4096)
	p.wantAppend(t, integers(7), 0, api.OK)
	p.wantAppend(t, integers(3), 1, api.OK)
	p.wantAppend(t, integers(7), 2, api.ErrFull)
}

// unfit are rows that do not fit the schema all, each by what the name tells.
func unfit() map[string][]api.Value {
	with := func(k int, v api.Value) []api.Value {
		row := rowOfAll()
		row[k] = v
		return row
	}
	return map[string][]api.Value{
		"no row":                       nil,
		"no value":                     {},
		"a value too few":              rowOfAll()[:7],
		"the first value too few":      rowOfAll()[1:],
		"a value too many":             append(rowOfAll(), integer(1)),
		"a Null too many":              append(rowOfAll(), null()),
		"Null for an integer":          with(0, null()),
		"Null for a string":            with(2, null()),
		"Null for a truth":             with(4, null()),
		"Null in the last column":      with(7, null()),
		"a string for an integer":      with(0, str("1")),
		"a truth for an integer":       with(1, boolean(true)),
		"an integer for a string":      with(2, integer(0)),
		"a truth for a string":         with(3, boolean(false)),
		"an integer for a truth":       with(4, integer(1)),
		"a string for a truth":         with(5, str("")),
		"an integer, last column":      with(7, integer(1)),
		"a kind below":                 with(0, api.Value{Kind: -1}),
		"a kind above":                 with(1, api.Value{Kind: 4}),
		"a string of 65 bytes":         with(2, str(letters(65))),
		"a string of 65 or Null":       with(3, str(letters(65))),
		"Null with an integer":         with(1, api.Value{I: 1}),
		"Null with a string":           with(3, api.Value{S: "a"}),
		"Null with a truth":            with(5, api.Value{B: true}),
		"an integer with a string":     with(0, api.Value{Kind: api.Int, I: 1, S: "a"}),
		"an integer with a truth":      with(6, api.Value{Kind: api.Int, I: 1, B: true}),
		"a string with an integer":     with(2, api.Value{Kind: api.Str, S: "a", I: 1}),
		"a truth with an integer":      with(7, api.Value{Kind: api.Bool, B: true, I: 1}),
		"a truth with a string, first": with(4, api.Value{Kind: api.Bool, S: "a"}),
	}
}

func TestAppendOfRowsThatDoNotFit(t *testing.T) {
	for name, row := range unfit() {
		p := empty(t, all(), 3, 3)
		for _, offset := range []int{0, 5, 1 << 40} {
			if e := p.append(t, row, offset); e != api.ErrArg {
				t.Errorf("%s: error %d", name, e)
			}
			p.compare(t)
		}
		p.wantAppend(t, rowOfAll(), 5, api.OK)
		if e := p.append(t, row, 6); e != api.ErrArg {
			t.Errorf("%s, behind a row: error %d", name, e)
		}
		p.compare(t)
		p.wantAppend(t, rowOfAll(), 6, api.OK)
	}
}

// TestAppendOfRowsThatFit has values that other columns, or others of the kind, might take for the same.
func TestAppendOfRowsThatFit(t *testing.T) {
	rows := [][]api.Value{
		rowOfAll(),
		{integer(0), integer(0), str(""), str(""), boolean(false), boolean(false), integer(0), boolean(false)},
		{integer(1), integer(1), str("1"), str("1"), boolean(true), boolean(true), integer(1), boolean(true)},
		{integer(math.MinInt), integer(math.MaxInt), str("\x00"), str("\xff"), boolean(true), null(), integer(1 << 53), boolean(true)},
		{integer(-1), null(), str(letters(64)), null(), boolean(false), boolean(false), integer(1<<53 + 1), boolean(false)},
		{integer(1), null(), str(letters(63)), str(letters(64)), boolean(false), null(), integer(0), boolean(false)},
	}
	p := filled(t, all(), 4096, 4096, rows...)
	for k, want := range []int{4, 4, 6, 5, 2, 3, 5, 2} {
		if n := p.r.Values(k); n != want {
			t.Errorf("Values(%d): %d, not %d", k, n, want)
		}
	}
}

func TestAppendOfOffsets(t *testing.T) {
	for _, offset := range []int{math.MinInt, -farthest, -2, -1, farthest + 1, farthest + 2, 1 << 41, math.MaxInt} {
		p := empty(t, one(), 10, 10)
		p.wantAppend(t, integers(1), offset, api.ErrArg)
		p.wantAppend(t, integers(1), 0, api.OK)
		p.wantAppend(t, integers(1), offset, api.ErrArg)
		p.wantAppend(t, integers(1), 1, api.OK)
	}
	for _, offset := range []int{0, 1, 5, 1 << 32, farthest - 1, farthest} {
		empty(t, one(), 10, 10).wantAppend(t, integers(1), offset, api.OK)
	}
}

func TestAppendOfOffsetsInOrder(t *testing.T) {
	p := empty(t, one(), 10, 10)
	for _, c := range []struct {
		offset int
		e      api.Errno
	}{
		{0, api.OK}, {0, api.ErrState}, {1, api.OK}, {0, api.ErrState}, {1, api.ErrState}, {2, api.OK},
		{7, api.OK}, {3, api.ErrState}, {6, api.ErrState}, {7, api.ErrState}, {8, api.OK},
		{1<<32 + 1, api.OK}, {9, api.ErrState}, {1 << 32, api.ErrState}, {1<<32 + 1, api.ErrState}, {1<<32 + 2, api.OK},
		{farthest, api.OK}, {farthest + 1, api.ErrArg}, {farthest, api.ErrState}, {farthest - 1, api.ErrState}, {0, api.ErrState},
	} {
		p.wantAppend(t, integers(c.offset%3), c.offset, c.e)
	}
}

func TestAppendOfMostRows(t *testing.T) {
	for _, most := range []int{1, 2, 3, 100} {
		p := empty(t, three(), most, 4096)
		for i := range most {
			p.wantAppend(t, integers(i, i%2, 0), 2*i, api.OK)
		}
		for _, offset := range []int{2 * most, 2*most + 1, farthest} {
			p.wantAppend(t, integers(0, 0, 0), offset, api.ErrFull)
			p.wantAppend(t, integers(most, 5, 5), offset, api.ErrFull)
		}
	}
}

// TestAppendAtTheLimits appends as many rows, and as many values, as there may be at all.
func TestAppendAtTheLimits(t *testing.T) {
	for _, values := range []int{1, 2, 4095, 4096} {
		p := empty(t, one(), 4096, values)
		for i := range 4096 {
			row := integers(i * 7919 % values)
			if n, e := p.r.Append(row, farthest-4096+i); n != i || e != api.OK {
				t.Fatalf("row %d of %d values: %d, error %d", i, values, n, e)
			}
			p.m.rows, p.m.offsets = append(p.m.rows, row), append(p.m.offsets, farthest-4096+i)
			if i == 4094 && values == 4095 {
				p.wantAppend(t, integers(-1), farthest, api.ErrFull)
			}
		}
		p.compare(t)
		for _, n := range []int{0, values - 1, -1} {
			p.wantAppend(t, integers(n), farthest, api.ErrFull)
		}
	}
}

func TestAppendOfValuesToAFullColumn(t *testing.T) {
	full := func(t *testing.T) pair {
		return filled(t, three(), 10, 3, integers(1, 1, 1), integers(2, 2, 2), integers(3, 3, 3))
	}
	for a := range 5 {
		for b := range 5 {
			for c := range 5 {
				want := api.OK
				if a%4 == 0 || b%4 == 0 || c%4 == 0 {
					want = api.ErrFull
				}
				p := full(t)
				p.wantAppend(t, integers(a, b, c), 31, want)
				// What was refused is refused again, and no other row is.
				p.wantAppend(t, integers(3, 1, 2), 32, api.OK)
				p.wantAppend(t, integers(a, b, c), 33, want)
			}
		}
	}
}

// TestAppendWhereOneColumnIsFull refuses rows by one column alone: their values in the other
// columns, which have room for one more, must not take that room.
func TestAppendWhereOneColumnIsFull(t *testing.T) {
	for k := range 3 {
		p := empty(t, three(), 10, 2)
		first, second := integers(1, 1, 1), integers(1, 1, 1)
		second[k] = integer(2)
		p.wantAppend(t, first, 0, api.OK)
		p.wantAppend(t, second, 1, api.OK)
		for n := 3; n < 10; n++ {
			p.wantAppend(t, integers(n, n, n), 2, api.ErrFull)
		}
		more := integers(5, 5, 5)
		more[k] = integer(1)
		p.wantAppend(t, more, 2, api.OK)
		for other := range 3 {
			if n := p.r.Values(other); n != 2 {
				t.Errorf("column %d full first: Values(%d) is %d", k, other, n)
			}
			row := integers(1, 1, 1)
			row[other] = integer(6)
			p.wantAppend(t, row, 3, api.ErrFull)
		}
		p.wantAppend(t, integers(1, 1, 1), 3, api.OK)
	}
}

// TestAppendOfOneValue has columns with one value each, which every row has to have.
func TestAppendOfOneValue(t *testing.T) {
	p := filled(t, all(), 100, 1, rowOfAll())
	for offset := 11; offset < 20; offset++ {
		for k, v := range []api.Value{integer(0), integer(0), str(""), str(""), boolean(true), boolean(false), integer(0), boolean(false)} {
			row := rowOfAll()
			row[k] = v
			p.wantAppend(t, row, offset, api.ErrFull)
		}
		p.wantAppend(t, rowOfAll(), offset, api.OK)
	}
}

// TestOrderOfErrors lets each pair, and all, of the errors come together.
func TestOrderOfErrors(t *testing.T) {
	mostRows := func() pair { return filled(t, three(), 2, 10, integers(1, 1, 1), integers(2, 2, 2)) }
	values := func() pair { return filled(t, three(), 10, 2, integers(1, 1, 1), integers(2, 2, 2)) }
	both := func() pair { return filled(t, three(), 2, 2, integers(1, 1, 1), integers(2, 2, 2)) }
	room := func() pair { return filled(t, three(), 10, 10, integers(1, 1, 1), integers(2, 2, 2)) }
	fit, fresh, bad := integers(1, 2, 1), integers(1, 3, 1), []api.Value{integer(1), null(), integer(1)}
	for name, p := range map[string]pair{"most": mostRows(), "values": values(), "both": both()} {
		for _, row := range [][]api.Value{bad, bad[:2], append(bad, bad...), nil, {integer(3), str("a"), integer(3)}} {
			for _, offset := range []int{-1, 0, 19, 20, 21, farthest, farthest + 1, math.MinInt, math.MaxInt} {
				p.wantAppend(t, row, offset, api.ErrArg)
			}
		}
		for _, row := range [][]api.Value{fit, fresh} {
			for _, offset := range []int{math.MinInt, -1, farthest + 1, math.MaxInt} {
				p.wantAppend(t, row, offset, api.ErrArg)
			}
			for _, offset := range []int{0, 10, 19, 20} {
				p.wantAppend(t, row, offset, api.ErrState)
			}
		}
		for _, offset := range []int{21, farthest} {
			p.wantAppend(t, fresh, offset, api.ErrFull)
		}
		if name != "values" {
			p.wantAppend(t, fit, 21, api.ErrFull)
		}
	}
	for _, offset := range []int{-1, 0, 20, farthest + 1} {
		room().wantAppend(t, bad, offset, api.ErrArg)
	}
	values().wantAppend(t, fit, 21, api.OK)
	room().wantAppend(t, fresh, 21, api.OK)
}

// TestAppendAfterErrors appends what was refused where it may be: an error leaves nothing behind.
func TestAppendAfterErrors(t *testing.T) {
	p := empty(t, three(), 4, 2)
	p.wantAppend(t, integers(1, 2), 5, api.ErrArg)
	p.wantAppend(t, integers(1, 2, 3), -1, api.ErrArg)
	p.wantAppend(t, integers(1, 2, 3), 5, api.OK)
	p.wantAppend(t, integers(4, 5, 6), 5, api.ErrState)
	p.wantAppend(t, integers(4, 5, 6), 6, api.OK)
	p.wantAppend(t, integers(7, 5, 6), 9, api.ErrFull)
	p.wantAppend(t, integers(4, 5, 7), 9, api.ErrFull)
	// Of the rows that were refused, neither the offset nor a value is there.
	p.wantAppend(t, integers(1, 5, 6), 7, api.OK)
	p.wantAppend(t, integers(1, 5, 6), 7, api.ErrState)
	p.wantAppend(t, []api.Value{integer(1), integer(5), null()}, 8, api.ErrArg)
	p.wantAppend(t, integers(4, 2, 3), 8, api.OK)
	p.wantAppend(t, integers(4, 2, 3), 9, api.ErrFull)
	p.wantAppend(t, integers(4, 2, 3), 8, api.ErrState)
	p.wantAppend(t, nil, 9, api.ErrArg)
}

func TestNilIsEmpty(t *testing.T) {
	var r *Rows
	for _, n := range []int{math.MinInt, -1, 0, 1, 4096, math.MaxInt} {
		if row, offset, there := r.At(n); row != nil || offset != 0 || there {
			t.Errorf("At(%d): %v, %d, %t", n, row, offset, there)
		}
		if l, count := r.Column(n), r.Values(n); len(l) != 0 || count != 0 {
			t.Errorf("Column and Values of %d: %v, %d", n, l, count)
		}
		for _, row := range [][]api.Value{nil, integers(1), rowOfAll(), {null()}} {
			if number, e := r.Append(row, n); number != 0 || e != api.ErrArg {
				t.Errorf("Append of %v at %d: %d, error %d", row, n, number, e)
			}
		}
	}
	if n, l := r.Len(), r.Offsets(); n != 0 || len(l) != 0 {
		t.Errorf("Len and Offsets: %d, %v", n, l)
	}
}

// spoilValues changes l and what may lie behind it.
func spoilValues(l []api.Value) {
	l = l[:cap(l)]
	for i := range l {
		l[i] = str("spoilt")
	}
}

func spoilOffsets(l []int) {
	l = l[:cap(l)]
	for i := range l {
		l[i] = -7
	}
}

func TestChangesOfArguments(t *testing.T) {
	s := all()
	p := empty(t, s, 5, 3)
	for i := range s.Cols {
		s.Cols[i] = api.Col{Name: "spoilt", Kind: api.Str, Null: true}
	}
	s.Key, s.Cmp, s.Del, s.Sort = -2, -2, -2, -2
	for offset := range 5 {
		row := append(rowOfAll(), null(), null())[:8]
		p.wantAppend(t, row, offset, api.OK)
		if !slices.Equal(row[:10], append(rowOfAll(), null(), null())) {
			t.Fatalf("the row handed in is changed: %#v", row)
		}
		spoilValues(row)
		p.compare(t)
	}
}

func TestNewAndAppendChangeNoArgument(t *testing.T) {
	s := all()
	p := empty(t, s, 5, 1)
	p.wantAppend(t, rowOfAll(), 1, api.OK)
	for _, row := range unfit() {
		before := slices.Clone(row)
		p.wantAppend(t, row, 2, api.ErrArg)
		if !slices.Equal(row, before) {
			t.Errorf("the row handed in is changed: %#v, not %#v", row, before)
		}
	}
	if !slices.Equal(s.Cols, all().Cols) {
		t.Errorf("the columns handed in are changed: %v", s.Cols)
	}
}

func TestChangesOfResults(t *testing.T) {
	p := filled(t, all(), 10, 5, rowOfAll(), rowOfAll(), rowOfAll())
	for range 3 {
		spoilOffsets(p.r.Offsets())
		for k := range 8 {
			spoilValues(p.r.Column(k))
		}
		for i := range p.r.Len() {
			row, _, _ := p.r.At(i)
			spoilValues(row)
		}
		p.compare(t)
		p.wantAppend(t, rowOfAll(), 100+p.r.Len(), api.OK)
	}
}

// TestResultsStay appends behind results of every length, which must stay as they are.
func TestResultsStay(t *testing.T) {
	p := empty(t, three(), 40, 40)
	for i := range 40 {
		column, offsets := p.r.Column(1), p.r.Offsets()
		row, _, there := p.r.At(i - 1)
		p.wantAppend(t, integers(-i, i*i, 7), 3*i, api.OK)
		for j := range i {
			if column[j] != integer(j*j) || offsets[j] != 3*j {
				t.Fatalf("row %d after row %d: %v at %d", j, i, column[j], offsets[j])
			}
		}
		if len(column) != i || len(offsets) != i || there != (i > 0) || there && !slices.Equal(row, integers(1-i, (i-1)*(i-1), 7)) {
			t.Fatalf("after row %d: %v, %v, %v", i, column, offsets, row)
		}
		// Neither do two results share anything.
		again, others := p.r.Column(1), p.r.Offsets()
		spoilValues(p.r.Column(1))
		spoilOffsets(p.r.Offsets())
		if len(again) != i+1 || again[i] != integer(i*i) || others[i] != 3*i {
			t.Fatalf("after row %d, of what is read twice: %v, %v", i, again, others)
		}
	}
}

// TestCollectionsAreSeparate fills two collections of one schema.
func TestCollectionsAreSeparate(t *testing.T) {
	s := three()
	p, q := empty(t, s, 3, 2), empty(t, s, 3, 2)
	for i := range 3 {
		p.wantAppend(t, integers(i%2, 0, 0), i, api.OK)
		q.compare(t)
		q.wantAppend(t, integers(9, 8-i%2, 7), 5+i, api.OK)
		p.compare(t)
	}
}

package seal

import (
	"slices"
	"testing"

	"winnower/api"
	"winnower/column"
)

// laid is the segment of rows in the order in which they are handed in, be it valid or not.
func laid(s api.Schema, x api.Segment, l [][]api.Value, offsets []int) api.Segment {
	return modelBuild(s, x, l, offsets, from(0, len(l), 1))
}

// columnOf is the column of these values.
func columnOf(values ...api.Value) api.Column {
	c, _ := column.Build(values)
	return c
}

// sample is a valid segment of mixed(0): its rows are 1 Null, 2 "b", 2 "a", 5 "b", at 7, 3, 6, 4.
func sample() api.Segment {
	l := [][]api.Value{{integer(1), null()}, {integer(2), str("b")}, {integer(2), str("a")}, {integer(5), str("b")}}
	return laid(mixed(0), head(1, 2, 2, 9), l, []int{7, 3, 6, 4})
}

// plain is a valid segment of mixed(-1): its rows are 5 "b", 2 "b", 2 Null, at 3, 4, 7.
func plain() api.Segment {
	l := [][]api.Value{{integer(5), str("b")}, {integer(2), str("b")}, {integer(2), null()}}
	return laid(mixed(-1), head(1, 2, 3, 8), l, []int{3, 4, 7})
}

func TestMayOfValidSegments(t *testing.T) {
	wantMay(t, mixed(0), sample(), true)
	wantMay(t, mixed(-1), plain(), true)
	// In each of them the order is another one than the other schema asks for.
	wantMay(t, mixed(-1), sample(), false)
	wantMay(t, mixed(0), plain(), false)
	wantMay(t, mixed(1), sample(), false)
	wantMay(t, mixed(1), plain(), false)
}

func TestMayOfHeads(t *testing.T) {
	for _, x := range goodHeads() {
		for _, s := range []api.Schema{two(-1), two(0), all(3)} {
			wantMay(t, s, built(t, s, x, nil, nil), true)
		}
		if x.Start < x.End {
			wantMay(t, two(0), built(t, two(0), x, paired([2]int{1, 2}), []int{x.End - 1}), true)
		}
	}
	for name, bad := range badHeads() {
		t.Run(name, func(t *testing.T) {
			for _, x := range []api.Segment{built(t, two(-1), head(0, 1, 0, 10), nil, nil), built(t, two(0), head(0, 1, 0, 10), paired([2]int{1, 2}), []int{4})} {
				x.Part, x.ID, x.Start, x.End = bad.Part, bad.ID, bad.Start, bad.End
				wantMay(t, two(0), x, false)
			}
		})
	}
}

// TestMayOfEachPartOfTheHead changes a part of the head of a segment with rows to what is not
// valid, and to the last that is.
func TestMayOfEachPartOfTheHead(t *testing.T) {
	for _, c := range []struct {
		x   api.Segment
		may bool
	}{
		{head(0, 2, 2, 9), true}, {head(3, 2, 2, 9), true}, {head(-1, 2, 2, 9), false}, {head(4, 2, 2, 9), false},
		{head(1, 1, 2, 9), true}, {head(1, 1<<30, 2, 9), true}, {head(1, 0, 2, 9), false}, {head(1, -1, 2, 9), false}, {head(1, 1<<30+1, 2, 9), false},
		{head(1, 2, 0, 9), true}, {head(1, 2, 3, 9), true}, {head(1, 2, 4, 9), false}, {head(1, 2, -1, 9), false}, {head(1, 2, 9, 9), false},
		{head(1, 2, 2, 8), true}, {head(1, 2, 2, farthest), true}, {head(1, 2, 2, 7), false}, {head(1, 2, 2, 1), false}, {head(1, 2, 2, farthest+1), false},
	} {
		x := sample()
		x.Part, x.ID, x.Start, x.End = c.x.Part, c.x.ID, c.x.Start, c.x.End
		wantMay(t, mixed(0), x, c.may)
	}
}

func TestMayOfInvalidSchemas(t *testing.T) {
	for name, s := range badSchemas() {
		t.Run(name, func(t *testing.T) {
			wantMay(t, s, api.Segment{}, false)
			wantMay(t, s, head(0, 1, 0, 10), false)
			x := head(0, 1, 0, 10)
			for range s.Cols {
				x.Cols = append(x.Cols, columnOf())
			}
			wantMay(t, s, x, false)
			x = built(t, two(0), x, paired([2]int{1, 2}, [2]int{3, 4}), []int{5, 6})
			wantMay(t, s, x, false)
			x.Cols = x.Cols[:1]
			wantMay(t, s, x, false)
		})
	}
	wantMay(t, two(0), api.Segment{}, false)
	wantMay(t, two(0), head(0, 1, 0, 10), false)
}

// broken are segments that are not valid for mixed(0), each of which differs from the sample by one thing.
func broken() map[string]api.Segment {
	with := func(change func(x *api.Segment)) api.Segment {
		x := sample()
		change(&x)
		return x
	}
	replaced := func(k int, c api.Column) api.Segment {
		return with(func(x *api.Segment) { x.Cols[k] = c })
	}
	offsets := func(l ...int) api.Segment {
		return with(func(x *api.Segment) { x.Offsets = l })
	}
	swapped := func(i, j int) api.Segment {
		return with(func(x *api.Segment) {
			order := from(0, 4, 1)
			order[i], order[j] = order[j], order[i]
			*x = modelBuild(mixed(0), *x, Rows(*x), x.Offsets, order)
		})
	}
	b, a := str("b"), str("a")
	return map[string]api.Segment{
		"no column":                      with(func(x *api.Segment) { x.Cols = nil }),
		"a column fewer":                 with(func(x *api.Segment) { x.Cols = x.Cols[:1] }),
		"the first column fewer":         with(func(x *api.Segment) { x.Cols = x.Cols[1:] }),
		"a column more":                  with(func(x *api.Segment) { x.Cols = append(x.Cols, x.Cols[1]) }),
		"an empty column more":           with(func(x *api.Segment) { x.Cols = append(x.Cols, api.Column{}) }),
		"columns that change places":     with(func(x *api.Segment) { slices.Reverse(x.Cols) }),
		"no rows in the columns":         with(func(x *api.Segment) { x.Cols = make([]api.Column, 2) }),
		"a zero column":                  replaced(0, api.Column{}),
		"a zero column, last":            replaced(1, api.Column{}),
		"a column of a row fewer":        replaced(0, columnOf(integers(1, 2, 2)...)),
		"a column of a row fewer, last":  replaced(1, columnOf(null(), b, a)),
		"a column of a row more":         replaced(0, columnOf(integers(1, 2, 2, 5, 5)...)),
		"a column of a row more, last":   replaced(1, columnOf(null(), b, a, b, b)),
		"N below":                        replaced(0, api.Column{N: -1, Dict: integers(1, 2, 5), Ids: []byte{0x94}}),
		"N less":                         replaced(0, api.Column{N: 3, Dict: integers(1, 2, 5), Ids: []byte{0x94}}),
		"N greater":                      replaced(0, api.Column{N: 5, Dict: integers(1, 2, 5), Ids: []byte{0x94}}),
		"a Dict that falls":              replaced(0, api.Column{N: 4, Dict: integers(1, 5, 2), Ids: []byte{0x94}}),
		"a Dict with a value twice":      replaced(0, api.Column{N: 4, Dict: integers(1, 2, 2), Ids: []byte{0x94}}),
		"a Dict with a value more":       replaced(0, api.Column{N: 4, Dict: integers(1, 2, 5, 6), Ids: []byte{0x94}}),
		"a Dict with a value fewer":      replaced(0, api.Column{N: 4, Dict: integers(1, 2), Ids: []byte{0x94}}),
		"a value that is not valid":      replaced(0, api.Column{N: 4, Dict: []api.Value{integer(1), {Kind: api.Int, I: 2, S: "a"}, integer(5)}, Ids: []byte{0x94}}),
		"a long string":                  replaced(1, api.Column{N: 4, Dict: []api.Value{null(), str("a"), str(letters(65))}, Ids: []byte{0x98}}),
		"an id without a value":          replaced(0, api.Column{N: 4, Dict: integers(1, 2, 5), Ids: []byte{0xD4}}),
		"a byte of Ids more":             replaced(0, api.Column{N: 4, Dict: integers(1, 2, 5), Ids: []byte{0x94, 0}}),
		"no Ids":                         replaced(0, api.Column{N: 4, Dict: integers(1, 2, 5)}),
		"Null, first":                    replaced(0, columnOf(null(), integer(2), integer(2), integer(5))),
		"a truth, last":                  replaced(0, columnOf(integer(1), integer(2), integer(2), boolean(true))),
		"a string, last":                 replaced(0, columnOf(integer(1), integer(2), integer(2), a)),
		"all strings":                    replaced(0, columnOf(a, b, b, str("c"))),
		"an integer, first":              replaced(1, columnOf(integer(0), b, a, b)),
		"an integer in the middle":       replaced(1, columnOf(null(), b, integer(1), b)),
		"a truth, last, in the last":     replaced(1, columnOf(null(), b, a, boolean(false))),
		"no offset":                      offsets(),
		"an offset fewer":                offsets(7, 3, 6),
		"an offset more":                 offsets(7, 3, 6, 4, 8),
		"an offset twice, neighbours":    offsets(7, 3, 6, 6),
		"an offset twice, first":         offsets(3, 3, 6, 4),
		"an offset twice, far apart":     offsets(7, 3, 6, 7),
		"an offset twice, one between":   offsets(6, 3, 6, 4),
		"an offset twice in an order":    offsets(7, 3, 6, 3),
		"an offset below Start, first":   offsets(1, 3, 6, 4),
		"an offset below Start":          offsets(7, 1, 6, 4),
		"an offset below Start, last":    offsets(7, 3, 6, 1),
		"a negative offset":              offsets(7, -3, 6, 4),
		"an offset of End":               offsets(7, 3, 6, 9),
		"an offset of End, first":        offsets(9, 3, 6, 4),
		"an offset of End in the middle": offsets(7, 3, 9, 4),
		"an offset beyond End":           offsets(7, 3, 6, farthest+1),
		"equal values, offsets falling":  offsets(7, 6, 3, 4),
		"equal values, one offset":       offsets(7, 3, 3, 4),
		"rows 0 and 1 change places":     swapped(0, 1),
		"rows 0 and 3 change places":     swapped(0, 3),
		"rows 1 and 2 change places":     swapped(1, 2),
		"rows 2 and 3 change places":     swapped(2, 3),
		"a value after the next":         replaced(0, columnOf(integers(3, 2, 2, 5)...)),
		"a value before the one before":  replaced(0, columnOf(integers(1, 2, 2, 1)...)),
		"rows equal, offsets not rising": replaced(0, columnOf(integers(1, 2, 5, 5)...)),
	}
}

func TestMayOfBrokenSegments(t *testing.T) {
	for name, x := range broken() {
		t.Run(name, func(t *testing.T) { wantMay(t, mixed(0), x, false) })
	}
}

// TestMayOfSegmentsWithoutRows has only columns that may be wrong.
func TestMayOfSegmentsWithoutRows(t *testing.T) {
	none, row := api.Column{}, columnOf(integer(1))
	for _, c := range []struct {
		cols []api.Column
		may  bool
	}{
		{[]api.Column{none, none}, true}, {[]api.Column{columnOf(), {Dict: []api.Value{}, Ids: []byte{}}}, true},
		{nil, false}, {[]api.Column{none}, false}, {[]api.Column{none, none, none}, false},
		{[]api.Column{row, none}, false}, {[]api.Column{none, row}, false}, {[]api.Column{row, row}, false},
		{[]api.Column{{Dict: integers(1)}, none}, false}, {[]api.Column{none, {Dict: integers(1)}}, false},
		{[]api.Column{{Ids: []byte{0}}, none}, false}, {[]api.Column{none, {Ids: []byte{0}}}, false},
		{[]api.Column{{N: -1}, none}, false}, {[]api.Column{none, {N: -1}}, false},
	} {
		for sort := -1; sort < 2; sort++ {
			x := head(1, 2, 3, 4)
			x.Cols = c.cols
			wantMay(t, two(sort), x, c.may)
			x.Offsets = []int{3}
			wantMay(t, two(sort), x, len(c.cols) == 2 && c.cols[0].N == 1 && c.cols[1].N == 1)
		}
	}
}

// TestMayOfChangedSegments changes the sample so that it stays valid.
func TestMayOfChangedSegments(t *testing.T) {
	for name, change := range map[string]func(x *api.Segment){
		"another column to sort by": func(x *api.Segment) { x.Cols[0] = columnOf(integers(-9, 0, 0, 1)...) },
		"other strings":             func(x *api.Segment) { x.Cols[1] = columnOf(str("z"), null(), null(), str("")) },
		"offsets at both ends":      func(x *api.Segment) { x.Offsets = []int{8, 4, 5, 2} },
		"other offsets":             func(x *api.Segment) { x.Offsets = []int{5, 6, 8, 3} },
		"all values distinct":       func(x *api.Segment) { x.Cols[0] = columnOf(integers(1, 2, 3, 4)...) },
		"all values equal": func(x *api.Segment) {
			x.Cols[0], x.Offsets = columnOf(integers(4, 4, 4, 4)...), []int{2, 3, 7, 8}
		},
	} {
		t.Run(name, func(t *testing.T) {
			x := sample()
			change(&x)
			wantMay(t, mixed(0), x, true)
		})
	}
}

// TestMayOfSegmentsWithoutSort changes one thing of a segment whose schema has no Sort column.
func TestMayOfSegmentsWithoutSort(t *testing.T) {
	for _, c := range []struct {
		offsets []int
		may     bool
	}{
		{[]int{3, 4, 7}, true}, {[]int{3, 4, 5}, true}, {[]int{5, 6, 7}, true}, {[]int{3, 5, 6}, true},
		{[]int{4, 3, 7}, false}, {[]int{3, 7, 4}, false}, {[]int{7, 4, 3}, false},
		{[]int{3, 3, 7}, false}, {[]int{3, 4, 4}, false}, {[]int{4, 3, 4}, false},
		{[]int{2, 4, 7}, false}, {[]int{3, 4, 8}, false}, {[]int{3, 4}, false}, {[]int{3, 4, 6, 7}, false}, {nil, false},
	} {
		x := plain()
		x.Offsets = c.offsets
		wantMay(t, mixed(-1), x, c.may)
	}
	for _, order := range [][]int{{1, 0, 2}, {0, 2, 1}, {2, 1, 0}, {1, 2, 0}, {2, 0, 1}} {
		x := plain()
		wantMay(t, mixed(-1), modelBuild(mixed(-1), x, Rows(x), x.Offsets, order), false)
	}
}

// TestMayOfOtherSchemas holds a valid segment against schemas for which it may be valid or not.
func TestMayOfOtherSchemas(t *testing.T) {
	n, text := api.Col{Name: "n", Kind: api.Int}, api.Col{Name: "s", Kind: api.Str, Null: true}
	nullable := n
	nullable.Null = true
	filled := text
	filled.Null = false
	keyed := mixed(0)
	keyed.Key, keyed.Cmp = 0, 0
	for _, c := range []struct {
		s   api.Schema
		may bool
	}{
		{of(0, n, text), true}, {of(0, nullable, text), true}, {keyed, true}, {of(0, n, filled), false},
		{of(1, n, text), false}, {of(-1, n, text), false}, {of(0, n), false}, {of(0, text), false}, {of(0, text, n), false},
		{of(0, n, text, api.Col{Name: "x", Kind: api.Int}), false}, {of(0, api.Col{Name: "b", Kind: api.Bool}, text), false},
		{of(0, n, api.Col{Name: "s", Kind: api.Int, Null: true}), false},
	} {
		wantMay(t, c.s, sample(), c.may)
	}
}

func TestMayAtTheLimit(t *testing.T) {
	for sort := -1; sort < 2; sort++ {
		x := built(t, two(sort), head(0, 1, 0, farthest), many(4096), from(farthest-4096, 4096, 1))
		if !May(two(sort), x) {
			t.Error("4096 rows: not valid")
		}
		x.Offsets = append([]int{0}, x.Offsets...)
		if May(two(sort), x) {
			t.Error("4097 offsets: valid")
		}
		for k := range x.Cols {
			x.Cols[k] = api.Column{N: 4097, Dict: integers(1)}
		}
		if May(two(sort), x) {
			t.Error("4097 rows: valid")
		}
		x.Cols = make([]api.Column, 2)
		if May(two(sort), x) {
			t.Error("4097 offsets, no rows: valid")
		}
	}
}

// TestMayOfAllShortSegments has all segments of up to three rows of one column, with values
// that fit and do not, and with offsets in the range and around it.
func TestMayOfAllShortSegments(t *testing.T) {
	values := []api.Value{null(), integer(1), integer(2), str("a")}
	kinds, valid := len(values)*5, 0
	for count := range 4 {
		segments := 1
		for range count {
			segments *= kinds
		}
		for segment := range segments {
			var l [][]api.Value
			var offsets []int
			for range count {
				l, offsets = append(l, []api.Value{values[segment%4]}), append(offsets, segment/4%5)
				segment /= kinds
			}
			x := laid(one(api.Int), head(0, 1, 1, 4), l, offsets)
			for _, s := range []api.Schema{of(0, one(api.Int).Cols...), of(-1, one(api.Int).Cols...)} {
				may := modelMay(s, x)
				if May(s, x) != may {
					t.Fatalf("May of %v at %v by %d: not %t", l, offsets, s.Sort, may)
				}
				if may {
					valid++
				}
			}
		}
	}
	if valid < 100 {
		t.Errorf("only %d segments were valid", valid)
	}
}

package seal

import (
	"math"
	"slices"
	"testing"

	"winnower/api"
)

func TestRowsOfBuiltSegments(t *testing.T) {
	wantRows(t, sample(), [][]api.Value{{integer(1), null()}, {integer(2), str("b")}, {integer(2), str("a")}, {integer(5), str("b")}})
	wantRows(t, plain(), [][]api.Value{{integer(5), str("b")}, {integer(2), str("b")}, {integer(2), null()}})
	s := of(0, api.Col{Name: "n", Kind: api.Int})
	wantRows(t, built(t, s, head(0, 1, 0, 3), single(integers(7, 3, 7)...), []int{0, 1, 2}), single(integers(3, 7, 7)...))
	wantRows(t, built(t, all(5), head(0, 1, 0, 3), [][]api.Value{rowOfAll()}, []int{2}), [][]api.Value{rowOfAll()})
}

func TestRowsOfEmptySegments(t *testing.T) {
	for _, x := range []api.Segment{
		{}, head(0, 1, 0, 10), built(t, two(0), head(0, 1, 0, 10), nil, nil), built(t, all(-1), head(0, 1, 4, 4), nil, nil),
		{Cols: []api.Column{columnOf(integers(1, 2)...)}}, {Offsets: []int{}, Cols: []api.Column{{N: 1}}},
	} {
		wantRows(t, x, nil)
	}
}

// TestRowsWithoutColumns has rows, but no values for them.
func TestRowsWithoutColumns(t *testing.T) {
	wantRows(t, api.Segment{Offsets: []int{5, 6, 7}}, make([][]api.Value, 3))
	wantRows(t, api.Segment{Offsets: []int{-1}, Cols: []api.Column{}}, make([][]api.Value, 1))
	wantRows(t, api.Segment{Offsets: make([]int, 70000)}, make([][]api.Value, 70000))
}

// TestRowsOfUnevenColumns has columns with fewer, and with more, rows than there are offsets.
func TestRowsOfUnevenColumns(t *testing.T) {
	for first := range 6 {
		for second := range 6 {
			for third := range 6 {
				x := api.Segment{Offsets: []int{10, 20, 30}}
				for k, count := range []int{first, second, third} {
					x.Cols = append(x.Cols, columnOf(integers(from(k, count, 10)...)...))
				}
				want := make([][]api.Value, 3)
				for i := range min(3, first, second, third) {
					want[i] = integers(10*i, 10*i+1, 10*i+2)
				}
				wantRows(t, x, want)
			}
		}
	}
}

// TestRowsOfInvalidColumns has one column that is not valid, in each place among three.
func TestRowsOfInvalidColumns(t *testing.T) {
	for _, c := range []api.Column{
		{}, {N: -1}, {N: 3}, {N: 3, Dict: integers(1)[:0]}, {N: math.MaxInt, Dict: integers(1)}, {N: 4097, Dict: integers(1)},
		{N: 3, Dict: integers(1, 2), Ids: []byte{8}}, {N: 3, Dict: integers(1, 2), Ids: []byte{0}}, {N: 3, Dict: integers(1, 2)},
		{N: 3, Dict: integers(2, 1), Ids: []byte{2}}, {N: 3, Dict: integers(1, 1), Ids: []byte{2}},
		{N: 3, Dict: integers(1, 2, 3), Ids: []byte{0x34}}, {N: 3, Dict: []api.Value{{Kind: 9}}},
	} {
		for k := range 3 {
			x := api.Segment{Offsets: []int{4, 5, 6}}
			for range 3 {
				x.Cols = append(x.Cols, columnOf(integers(7, 8, 7)...))
			}
			x.Cols[k] = c
			wantRows(t, x, make([][]api.Value, 3))
		}
	}
}

func TestRowsOfInvalidSegments(t *testing.T) {
	for name, x := range broken() {
		t.Run(name, func(t *testing.T) { wantRows(t, x, modelRows(x)) })
	}
	// Neither the head nor the offsets matter, but for how many they are.
	for _, bad := range badHeads() {
		x := sample()
		x.Part, x.ID, x.Start, x.End, x.Offsets = bad.Part, bad.ID, bad.Start, bad.End, []int{-1, 9, 9, 9}
		wantRows(t, x, Rows(sample()))
		x.Offsets = x.Offsets[:2]
		wantRows(t, x, Rows(sample())[:2])
		x.Offsets = make([]int, 6)
		wantRows(t, x, append(Rows(sample()), nil, nil))
	}
}

func TestRowsOfManyColumns(t *testing.T) {
	x := api.Segment{Offsets: from(0, 100, 1)}
	for range 1000 {
		x.Cols = append(x.Cols, columnOf(integers(from(0, 100, 3)...)...))
	}
	for i, row := range Rows(x) {
		if !slices.Equal(row, slices.Repeat(integers(3*i), 1000)) {
			t.Fatalf("row %d: %v", i, row)
		}
	}
	wantRow(t, x, 50, slices.Repeat(integers(150), 1000))
	x.Cols[999] = api.Column{}
	wantRow(t, x, 50, nil)
	if rows := Rows(x); len(rows) != 100 || !sameRows(rows, make([][]api.Value, 100)) {
		t.Errorf("%d rows, the first one of %d values", len(rows), len(rows[0]))
	}
}

func TestRowsAtTheLimit(t *testing.T) {
	for sort := -1; sort < 2; sort++ {
		l := many(4096)
		x := built(t, two(sort), head(0, 1, 0, 4096), l, from(0, 4096, 1))
		var want [][]api.Value
		for _, i := range modelOrder(two(sort), l) {
			want = append(want, l[i])
		}
		wantRows(t, x, want)
	}
}

package seal

import (
	"reflect"
	"slices"
	"testing"

	"winnower/api"
)

// drawnSegment is a schema, and a segment that is built for it of some rows and offsets.
func drawnSegment(t testing.TB, seed int) (api.Schema, api.Segment, [][]api.Value, []int) {
	t.Helper()
	draw := random(seed)
	s := []api.Schema{two(0), mixed(0), all(0), one(1 + draw(3))}[seed%4]
	s.Sort = draw(len(s.Cols)+1) - 1
	start := draw(2) * (farthest - 4000)
	l := drawnRows(draw, s, draw(50), 1+draw(80))
	offsets := drawnOffsets(draw, start, len(l))
	return s, built(t, s, head(draw(4), 1+draw(1000), start, start+4000), l, offsets), l, offsets
}

// TestBuiltHasTheRows finds each row at its offset, and no other.
func TestBuiltHasTheRows(t *testing.T) {
	for seed := range 400 {
		s, x, l, offsets := drawnSegment(t, seed)
		rows := Rows(x)
		if !May(s, x) || !modelMay(s, x) || len(rows) != len(l) || len(x.Offsets) != len(l) {
			t.Fatalf("%d rows, not %d, or not valid", len(rows), len(l))
		}
		place := map[int]int{}
		for i, offset := range x.Offsets {
			place[offset] = i
		}
		for i, offset := range offsets {
			at, there := place[offset]
			if !there || !slices.Equal(rows[at], l[i]) || !slices.Equal(Row(x, at), l[i]) {
				t.Fatalf("at offset %d: row %d, %t, not %v", offset, at, there, l[i])
			}
		}
		if order := Order(s, l); len(order) != len(l) || !sameRows(reordered(l, order), rows) {
			t.Fatalf("order %v of %v is not %v", order, l, rows)
		}
	}
}

func reordered(l [][]api.Value, order []int) [][]api.Value {
	var out [][]api.Value
	for _, i := range order {
		out = append(out, l[i])
	}
	return out
}

// TestSealedAgain seals the rows of a segment in the order of their offsets.
func TestSealedAgain(t *testing.T) {
	for seed := range 400 {
		s, x, l, offsets := drawnSegment(t, seed)
		rows := Rows(x)
		order := from(0, len(rows), 1)
		slices.SortFunc(order, func(a, b int) int { return x.Offsets[a] - x.Offsets[b] })
		if !sameRows(reordered(rows, order), l) {
			t.Fatalf("rows in the order of the offsets: %v, not %v", reordered(rows, order), l)
		}
		if again := built(t, s, x, reordered(rows, order), offsets); !sameSegment(again, x) {
			t.Fatalf("%#v, not %#v", again, x)
		}
	}
}

// TestOneChangeOfDrawnSegments holds May against the model for segments with one thing changed.
func TestOneChangeOfDrawnSegments(t *testing.T) {
	counts := [2]int{}
	for seed := range 2000 {
		s, x, _, _ := drawnSegment(t, seed)
		draw := random(seed + 7)
		changeOne(draw, &x)
		want := modelMay(s, x)
		if May(s, x) != want {
			t.Fatalf("seed %d: May is not %t, of %#v", seed, want, x)
		}
		if want {
			counts[1]++
		} else {
			counts[0]++
		}
		wantRows(t, x, modelRows(x))
	}
	if counts[0] < 200 || counts[1] < 200 {
		t.Errorf("%d were not valid, %d were", counts[0], counts[1])
	}
}

func changeOne(draw func(int) int, x *api.Segment) {
	k := draw(len(x.Cols))
	switch c := &x.Cols[k]; draw(9) {
	case 0:
		x.Part += draw(5) - 2
	case 1:
		x.Start += draw(5) - 2
	case 2:
		x.End = x.Start + draw(200)
	case 3:
		x.Cols = slices.Delete(x.Cols, k, k+draw(2))
	case 4:
		c.N += draw(3) - 1
	case 5:
		if len(c.Dict) > 0 {
			c.Dict[draw(len(c.Dict))] = []api.Value{null(), integer(draw(100)), str(letters(draw(70))), boolean(draw(2) == 0)}[draw(4)]
		}
	case 6:
		if len(c.Ids) > 0 {
			c.Ids[draw(len(c.Ids))] ^= byte(1 << draw(8))
		}
	case 7:
		if len(x.Offsets) > 0 {
			x.Offsets[draw(len(x.Offsets))] += draw(7) - 3
		}
	case 8:
		if n := len(x.Offsets); n > 1 {
			i, j := draw(n), draw(n)
			x.Offsets[i], x.Offsets[j] = x.Offsets[j], x.Offsets[i]
		}
	}
}

// spoilNumbers changes l and what may lie behind it.
func spoilNumbers(l []int) {
	l = l[:cap(l)]
	for i := range l {
		l[i] = -7
	}
}

func spoilValues(l []api.Value) {
	l = l[:cap(l)]
	for i := range l {
		l[i] = str("spoilt")
	}
}

func spoilRows(l [][]api.Value) {
	for _, row := range l {
		spoilValues(row)
	}
	l = l[:cap(l)]
	for i := range l {
		l[i] = nil
	}
}

func spoilSegment(x api.Segment) {
	spoilNumbers(x.Offsets)
	for _, c := range x.Cols {
		spoilValues(c.Dict)
		ids := c.Ids[:cap(c.Ids)]
		for i := range ids {
			ids[i] = 0xA5
		}
	}
	cols := x.Cols[:cap(x.Cols)]
	for k := range cols {
		cols[k] = api.Column{N: -7}
	}
}

// TestCallsChangeNoArgument has room behind each list that is handed in, in which nothing may change either.
func TestCallsChangeNoArgument(t *testing.T) {
	for seed := range 100 {
		s, x, l, offsets := drawnSegment(t, seed)
		if seed%3 == 0 && len(l) > 0 {
			l[seed%len(l)] = nil
		}
		l, offsets, s.Cols = append(l, rowOfAll()), append(offsets, -5), append(s.Cols, api.Col{Name: "behind"})
		x.Offsets, x.Cols = append(x.Offsets, -6), append(x.Cols, api.Column{N: 8})
		rows, places, cols, segment := copiedRows(l), slices.Clone(offsets), slices.Clone(s.Cols), copied(x)
		n := len(l) - 1
		s.Cols, x.Offsets, x.Cols = s.Cols[:len(s.Cols)-1], x.Offsets[:n], x.Cols[:len(s.Cols)-1]
		Order(s, l[:n])
		Build(s, x, l[:n], offsets[:n])
		Build(s, x, l, offsets)
		May(s, x)
		Rows(x)
		Row(x, n-1)
		s.Cols, x.Offsets, x.Cols = s.Cols[:len(cols)], x.Offsets[:n+1], x.Cols[:len(cols)]
		if !sameRows(l, rows) || !slices.Equal(offsets, places) || !slices.Equal(s.Cols, cols) || !sameSegment(x, segment) {
			t.Fatalf("seed %d: what was handed in is changed", seed)
		}
	}
}

// TestChangesOfArguments changes what was handed in: what was answered stays.
func TestChangesOfArguments(t *testing.T) {
	for seed := range 100 {
		s, x, l, offsets := drawnSegment(t, seed)
		given := copied(x)
		out, order, _ := Build(s, given, l, offsets)
		other, rows := Order(s, l), Rows(given)
		row := Row(given, len(l)/2)
		want, wantRow, places := copiedRows(rows), slices.Clone(row), modelOrder(s, l)
		spoilSegment(given)
		spoilNumbers(offsets)
		spoilRows(l)
		cols := s.Cols
		s.Cols = slices.Clone(cols)
		clear(cols)
		if !sameSegment(out, x) || !slices.Equal(order, places) || !slices.Equal(other, places) {
			t.Fatalf("seed %d: %#v in the order %v, %v", seed, out, order, other)
		}
		if !sameRows(rows, want) || !slices.Equal(row, wantRow) || !sameRows(Rows(out), want) || !May(s, out) {
			t.Fatalf("seed %d: rows %v, row %v", seed, rows, row)
		}
	}
}

// TestChangesOfResults changes what was answered: neither what was handed in nor a later answer changes.
func TestChangesOfResults(t *testing.T) {
	for seed := range 100 {
		s, x, l, offsets := drawnSegment(t, seed)
		given, rows, places := copied(x), copiedRows(l), slices.Clone(offsets)
		for range 2 {
			out, order, _ := Build(s, given, l, offsets)
			spoilNumbers(order)
			if !sameSegment(out, x) {
				t.Fatalf("seed %d: the order is part of the segment", seed)
			}
			spoilSegment(out)
			spoilNumbers(Order(s, l))
			spoilRows(Rows(given))
			spoilValues(Row(given, 0))
		}
		if !sameSegment(given, x) || !sameRows(l, rows) || !slices.Equal(offsets, places) {
			t.Fatalf("seed %d: what was handed in is changed", seed)
		}
		if again, order, e := Build(s, given, l, offsets); e != api.OK || !sameSegment(again, x) || !slices.Equal(order, Order(s, l)) {
			t.Fatalf("seed %d: another answer: %#v", seed, again)
		}
	}
}

// TestListsOfOneAnswerAreApart changes one list of an answer, and what lies behind it: the others stay.
func TestListsOfOneAnswerAreApart(t *testing.T) {
	for seed := range 100 {
		s, x, l, offsets := drawnSegment(t, seed)
		rows := Rows(x)
		want := copiedRows(rows)
		for i := range rows {
			spoilValues(rows[i])
			if !sameRows(rows[i+1:], want[i+1:]) {
				t.Fatalf("seed %d: a change of row %d changes others", seed, i)
			}
		}
		out := built(t, s, x, l, offsets)
		for k := range out.Cols {
			spoilValues(out.Cols[k].Dict)
			if ids := out.Cols[k].Ids; len(ids) > 0 {
				clear(ids[:cap(ids)])
			}
			if !slices.EqualFunc(out.Cols[k+1:], x.Cols[k+1:], sameColumn) || !slices.Equal(out.Offsets, x.Offsets) {
				t.Fatalf("seed %d: a change of column %d changes others", seed, k)
			}
		}
	}
}

// TestSameCallsSameAnswers asks everything twice.
func TestSameCallsSameAnswers(t *testing.T) {
	for seed := range 50 {
		s, x, l, offsets := drawnSegment(t, seed)
		again, _, _, _ := drawnSegment(t, seed)
		a, b := built(t, s, x, l, offsets), built(t, again, copied(x), copiedRows(l), slices.Clone(offsets))
		if !reflect.DeepEqual(a, b) || !reflect.DeepEqual(Rows(a), Rows(b)) || !slices.Equal(Order(s, l), Order(again, copiedRows(l))) {
			t.Fatalf("seed %d: %#v, then %#v", seed, a, b)
		}
	}
}

// FuzzMay changes bytes, offsets and parts of a built segment: May is what the model tells.
func FuzzMay(f *testing.F) {
	f.Add(1, 0, 0, 0, []byte{})
	f.Add(2, 1, 2, 3, []byte{5, 4, 3})
	f.Add(3, -1, 9, 1<<30, []byte{255, 0, 1, 2, 3, 4, 5, 6})
	f.Fuzz(func(t *testing.T, seed, part, id, at int, ids []byte) {
		s, x, _, _ := drawnSegment(t, seed&0xFFFF)
		x.Part, x.ID = x.Part+part, x.ID+id
		if len(x.Offsets) > 0 && at != 0 {
			x.Offsets[uint(at)%uint(len(x.Offsets))] = at
		}
		if len(ids) > 0 {
			x.Cols[0].Ids = ids
		}
		if want := modelMay(s, x); May(s, x) != want {
			t.Fatalf("May is not %t, of %#v", want, x)
		}
		wantRows(t, x, modelRows(x))
	})
}

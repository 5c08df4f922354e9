package query

import (
	"math"
	"reflect"
	"slices"
	"testing"

	"winnower/api"
)

// change is one thing that makes a query invalid, and the error because of it.
type change struct {
	name string
	make func(s *api.Schema, q *api.Query)
	e    api.Errno
}

// changes are some of every kind, in the order in which their errors are told. Any of them
// may be made together.
func changes() []change {
	return []change{
		{"a schema that is not valid", func(s *api.Schema, q *api.Query) { s.Sort = 8 }, api.ErrArg},
		{"a Limit", func(s *api.Schema, q *api.Query) { q.Limit = 4097 }, api.ErrLong},
		{"no Ask", func(s *api.Schema, q *api.Query) { q.Filter[1] = api.Node{Ask: 11, Col: -1, A: -1} }, api.ErrArg},
		{"no column to compare", func(s *api.Schema, q *api.Query) { q.Filter[2] = api.Node{Ask: api.Gt, Col: 8, Val: str("a")} }, api.ErrNone},
		{"a Val of another kind", func(s *api.Schema, q *api.Query) { q.Filter[3].Val = str("a") }, api.ErrKind},
		{"no node ahead", func(s *api.Schema, q *api.Query) { q.Filter[4].B = 4 }, api.ErrState},
		{"no column to show", func(s *api.Schema, q *api.Query) { q.Cols = append(q.Cols, 8) }, api.ErrNone},
		{"no column to group by", func(s *api.Schema, q *api.Query) { q.Group[1] = -1 }, api.ErrNone},
		{"no Fn", func(s *api.Schema, q *api.Query) { q.Aggs[0] = api.Agg{Fn: 6, Col: 8} }, api.ErrArg},
		{"no column of a Min", func(s *api.Schema, q *api.Query) { q.Aggs[1] = api.Agg{Fn: api.Min, Col: -1} }, api.ErrNone},
		{"a Sum of texts", func(s *api.Schema, q *api.Query) { q.Aggs[2] = api.Agg{Fn: api.Sum, Col: 3} }, api.ErrKind},
		{"columns beside groups", func(s *api.Schema, q *api.Query) { q.Cols = append(q.Cols, 0) }, api.ErrState},
		{"no output to sort by", func(s *api.Schema, q *api.Query) { q.Sort[1].Out = 9 }, api.ErrNone},
	}
}

// sound is a valid query with some of everything but Cols.
func sound() api.Query {
	return api.Query{
		Filter: []api.Node{{Ask: api.Is, Col: 7}, {}, {Ask: api.Lt, Col: 2, Val: str("m")}, {Ask: api.Eq, Col: 1, Val: integer(5)}, {Ask: api.Or, A: 2, B: 3}},
		Group:  []int{4, 5},
		Aggs:   []api.Agg{{Fn: api.Count, Col: -1}, {Fn: api.Min, Col: 3}, {Fn: api.Sum, Col: 6}},
		Sort:   []api.By{{Out: 4, Desc: true}, {Out: 0}},
		Limit:  10,
	}
}

// TestOrderOfErrors makes each set of the changes.
func TestOrderOfErrors(t *testing.T) {
	all := changes()
	for set := range 1 << len(all) {
		s, q, want := wide(), sound(), api.OK
		for i, c := range slices.Backward(all) {
			if set>>i&1 == 1 {
				c.make(&s, &q)
				want = c.e
			}
		}
		if e := Check(s, q); e != want {
			t.Fatalf("Check of %+v: error %d, not %d", q, e, want)
		}
		if l := Outs(s, q); (len(l) == 5) != (set == 0) || (len(l) == 0) != (set != 0) {
			t.Fatalf("Outs of %+v: %v", q, l)
		}
	}
}

// TestLengthsComeAhead has a list that is too long with each of the later errors.
func TestLengthsComeAhead(t *testing.T) {
	long := []func(q *api.Query){
		func(q *api.Query) { q.Filter = append(q.Filter, make([]api.Node, 28)...) },
		func(q *api.Query) { q.Cols = append(q.Cols, make([]int, 9)...) },
		func(q *api.Query) { q.Group = append(q.Group, 0, 0, 0) },
		func(q *api.Query) { q.Aggs = append(q.Aggs, slices.Repeat([]api.Agg{{Fn: api.Max}}, 2)...) },
		func(q *api.Query) { q.Sort = append(q.Sort, make([]api.By, 3)...) },
		func(q *api.Query) { q.Limit = -1 },
		func(q *api.Query) { q.Limit = math.MinInt },
	}
	for i, lengthen := range long {
		for _, c := range changes() {
			s, q := wide(), sound()
			lengthen(&q)
			wantCheck(t, s, q, api.ErrLong)
			c.make(&s, &q)
			want := api.ErrLong
			if c.name == changes()[0].name {
				want = api.ErrArg
			}
			if e := Check(s, q); e != want {
				t.Errorf("list %d with %s: error %d", i, c.name, e)
			}
		}
	}
}

// TestLengthsOfEmptyQueries: that a list is too long comes ahead of that there are no outputs.
func TestLengthsOfEmptyQueries(t *testing.T) {
	wantCheck(t, wide(), api.Query{Filter: make([]api.Node, 33)}, api.ErrLong)
	wantCheck(t, wide(), api.Query{Filter: make([]api.Node, 32)}, api.ErrState)
	wantCheck(t, wide(), api.Query{Sort: make([]api.By, 5)}, api.ErrLong)
	wantCheck(t, wide(), api.Query{Sort: make([]api.By, 4)}, api.ErrState)
	wantCheck(t, wide(), api.Query{Limit: 4097}, api.ErrLong)
	wantCheck(t, wide(), api.Query{Limit: 4096}, api.ErrState)
}

// few are nodes of all Asks, and of others, with each of few columns, values and operands.
func few() []api.Node {
	var l []api.Node
	for ask := -1; ask <= 11; ask++ {
		for n := -1; n <= 3; n++ {
			for _, v := range []api.Value{null(), integer(1), str("a"), {Kind: api.Bool, I: 1}} {
				l = append(l, api.Node{Ask: ask, Col: n, Val: v, A: n, B: 0}, api.Node{Ask: ask, Col: n, Val: v, A: 0, B: n})
			}
		}
	}
	return l
}

// TestPairsOfNodes has each pair of few nodes.
func TestPairsOfNodes(t *testing.T) {
	s, l := three(), few()
	for _, a := range l {
		for _, b := range l {
			q := filtered(a, b)
			e := Check(s, q)
			if e != modelCheck(s, q) {
				t.Fatalf("Check of %v: error %d, not %d", q.Filter, e, modelCheck(s, q))
			}
			if e == api.OK {
				wantNames(t, s, q)
			}
		}
	}
}

// wantNames checks that q, a valid query, names only columns of s and preceding nodes.
func wantNames(t testing.TB, s api.Schema, q api.Query) {
	t.Helper()
	for _, col := range Uses(q) {
		if !there(s, col) {
			t.Fatalf("%+v names column %d", q, col)
		}
	}
	for i, x := range q.Filter {
		combines := x.Ask == api.And || x.Ask == api.Or
		if (combines || x.Ask == api.Not) && (x.A < 0 || x.A >= i) || combines && (x.B < 0 || x.B >= i) {
			t.Fatalf("node %d of %+v names one that does not precede it", i, q)
		}
		if x.Ask >= api.Eq && x.Ask <= api.Is && !there(s, x.Col) {
			t.Fatalf("node %d of %+v names no column", i, q)
		}
	}
	for _, col := range slices.Concat(q.Cols, q.Group) {
		if !there(s, col) {
			t.Fatalf("%+v names column %d", q, col)
		}
	}
	for _, a := range q.Aggs {
		if !there(s, a.Col) && a != (api.Agg{Fn: api.Count, Col: -1}) {
			t.Fatalf("%+v names column %d", q, a.Col)
		}
	}
}

// drawn is a query in which few things are wrong.
func drawn(s api.Schema, draw func(int) int) api.Query {
	// pick is a number of one of count things, seldom of none.
	pick := func(count int) int {
		if draw(60) == 0 {
			return []int{-1, count, math.MinInt, math.MaxInt}[draw(4)]
		}
		return draw(max(count, 1))
	}
	var q api.Query
	for i := range draw(7) {
		x := api.Node{Ask: pick(11), Col: pick(len(s.Cols)), A: pick(i), B: pick(i)}
		if there(s, x.Col) && draw(40) > 0 {
			x.Val = []api.Value{integer(draw(9)), str(letters(draw(65))), boolean(draw(2) == 0)}[s.Cols[x.Col].Kind-api.Int]
		}
		q.Filter = append(q.Filter, x)
	}
	parts := draw(20)
	if parts < 7 {
		q.Cols = drawnColumns(draw, pick, s, draw(9))
	}
	if parts > 5 {
		q.Group = drawnColumns(draw, pick, s, draw(5))
		for range draw(4) {
			q.Aggs = append(q.Aggs, api.Agg{Fn: 1 + pick(5), Col: pick(len(s.Cols))})
		}
	}
	for range draw(3) {
		q.Sort = append(q.Sort, api.By{Out: pick(len(q.Cols) + len(q.Group) + len(q.Aggs)), Desc: draw(2) == 0})
	}
	q.Limit = pick(4097)
	return q
}

func drawnColumns(draw, pick func(int) int, s api.Schema, count int) []int {
	var l []int
	for range count {
		l = append(l, pick(len(s.Cols)))
	}
	return l
}

// TestDrawnQueries holds many against the model.
func TestDrawnQueries(t *testing.T) {
	counts := map[api.Errno]int{}
	for seed := range 40000 {
		draw := random(seed)
		draw(2)
		s := []api.Schema{wide(), three()}[draw(2)]
		q := drawn(s, draw)
		e := compare(t, s, q)
		counts[e]++
		if e == api.OK {
			wantNames(t, s, q)
		}
	}
	for _, e := range []api.Errno{api.OK, api.ErrArg, api.ErrLong, api.ErrNone, api.ErrKind, api.ErrState} {
		if counts[e] < 300 {
			t.Errorf("only %d queries have the error %d", counts[e], e)
		}
	}
}

// TestChangesOfArguments: no call changes what it is given, and none keeps it.
func TestChangesOfArguments(t *testing.T) {
	for _, q := range []api.Query{sound(), {Cols: []int{5, 2, 5, -1}}, {Cols: []int{7, 3, 3, 0}}, {}} {
		// There is room behind each list, which the caller uses for other things.
		s, room := wide(), copied(q)
		room.Cols = append(slices.Grow(room.Cols, 9), 70, 71, 72)[:len(q.Cols)]
		room.Group = append(slices.Grow(room.Group, 9), 80, 81, 82)[:len(q.Group)]
		room.Aggs = append(slices.Grow(room.Aggs, 9), api.Agg{Col: 90}, api.Agg{Col: 91})[:len(q.Aggs)]
		kept := api.Query{Cols: slices.Clone(room.Cols[:len(q.Cols)+3]), Group: slices.Clone(room.Group[:len(q.Group)+3]), Aggs: slices.Clone(room.Aggs[:len(q.Aggs)+2])}
		Check(s, room)
		outs, uses := Outs(s, room), Uses(room)
		if !reflect.DeepEqual(s, wide()) || !slices.Equal(room.Cols, q.Cols) || !slices.Equal(room.Group, q.Group) || !slices.Equal(room.Aggs, q.Aggs) || !slices.Equal(room.Sort, q.Sort) || !slices.Equal(room.Filter, q.Filter) {
			t.Errorf("%+v is %+v now", q, room)
		}
		if !slices.Equal(room.Cols[:len(q.Cols)+3], kept.Cols) || !slices.Equal(room.Group[:len(q.Group)+3], kept.Group) || !slices.Equal(room.Aggs[:len(q.Aggs)+2], kept.Aggs) {
			t.Error("what is behind the lists has changed")
		}
		// The results stay what they are if the arguments change.
		for _, l := range [][]int{room.Cols, room.Group} {
			for i := range l {
				l[i] = 6
			}
		}
		for i := range room.Aggs {
			room.Aggs[i] = api.Agg{Fn: api.Max, Col: 6}
		}
		s.Cols[2].Kind, s.Cols[4].Kind = api.Int, api.Int
		if !slices.Equal(outs, modelOuts(wide(), q)) || !slices.Equal(uses, modelUses(q)) {
			t.Errorf("%v, %v of %+v", outs, uses, q)
		}
	}
}

// TestChangesOfResults: no later answer, and no argument, is what a caller makes of a result.
func TestChangesOfResults(t *testing.T) {
	for _, q := range []api.Query{sound(), {Cols: []int{5, 2, 5, 0}}, {Cols: []int{0, 1, 2, 3}}, {Group: []int{0, 1, 2}}} {
		s, kept := wide(), copied(q)
		first, second := Outs(s, q), Outs(s, q)
		used, again := Uses(q), Uses(q)
		for _, l := range [][]int{first, used} {
			l = append(l, 98)
			for i := range l[:cap(l)] {
				l[:cap(l)][i] = 99
			}
		}
		if !slices.Equal(second, modelOuts(s, kept)) || !slices.Equal(again, modelUses(kept)) || !reflect.DeepEqual(q, kept) || !reflect.DeepEqual(s, wide()) {
			t.Errorf("%v, %v and %+v of %+v", second, again, q, kept)
		}
		compare(t, s, q)
	}
}

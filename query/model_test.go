package query

import (
	"math"
	"reflect"
	"slices"
	"strings"
	"testing"

	"winnower/api"
)

func null() api.Value          { return api.Value{Kind: api.Null} }
func integer(n int) api.Value  { return api.Value{Kind: api.Int, I: n} }
func str(s string) api.Value   { return api.Value{Kind: api.Str, S: s} }
func boolean(b bool) api.Value { return api.Value{Kind: api.Bool, B: b} }
func letters(count int) string { return strings.Repeat("x", count) }

// bare is a schema of these columns, without a key and a column to sort by.
func bare(cols ...api.Col) api.Schema {
	return api.Schema{Cols: cols, Key: -1, Cmp: -1, Del: -1, Sort: -1}
}

// wide has eight columns: of every kind, nullable and not, and two more.
func wide() api.Schema {
	return bare(
		api.Col{Name: "i", Kind: api.Int}, api.Col{Name: "i_null", Kind: api.Int, Null: true},
		api.Col{Name: "s", Kind: api.Str}, api.Col{Name: "s_null", Kind: api.Str, Null: true},
		api.Col{Name: "b", Kind: api.Bool}, api.Col{Name: "b_null", Kind: api.Bool, Null: true},
		api.Col{Name: "i2", Kind: api.Int}, api.Col{Name: "b2", Kind: api.Bool},
	)
}

// three has a column of each kind.
func three() api.Schema {
	return bare(api.Col{Name: "i", Kind: api.Int}, api.Col{Name: "s", Kind: api.Str}, api.Col{Name: "b", Kind: api.Bool, Null: true})
}

// numbers are some in and beyond the range of the numbers of count things.
func numbers(count int) []int {
	l := []int{math.MinInt, math.MinInt + 1, -1 << 32, -count - 1, -count, -2, -1, 1 << 32, 1<<32 + 1, math.MaxInt - 1, math.MaxInt}
	for n := range count + 3 {
		l = append(l, n)
	}
	return l
}

// copied is q with lists of its own.
func copied(q api.Query) api.Query {
	q.Filter, q.Cols, q.Group, q.Aggs, q.Sort = slices.Clone(q.Filter), slices.Clone(q.Cols), slices.Clone(q.Group), slices.Clone(q.Aggs), slices.Clone(q.Sort)
	return q
}

func copiedSchema(s api.Schema) api.Schema {
	s.Cols = slices.Clone(s.Cols)
	return s
}

// fault is an error that a query has: by which item of the chapter's list, for which element
// of which list, and as the how-manieth thing that is said of it there.
type fault struct {
	item, list, element, thing int
	e                          api.Errno
}

func ahead(a, b fault) int {
	return slices.Compare([]int{a.item, a.list, a.element, a.thing}, []int{b.item, b.list, b.element, b.thing})
}

// faults are all faults of q for s, a valid schema, in no order: as the chapter names them,
// but without regard to which come ahead.
func faults(s api.Schema, q api.Query) []fault {
	var l []fault
	if len(q.Filter) > 32 || len(q.Cols) > 8 || len(q.Group) > 4 || len(q.Aggs) > 4 || len(q.Sort) > 4 || q.Limit < 0 || q.Limit > 4096 {
		l = append(l, fault{item: 2, e: api.ErrLong})
	}
	if len(q.Cols) > 0 && (len(q.Group) > 0 || len(q.Aggs) > 0) || len(q.Cols) == 0 && len(q.Group) == 0 && len(q.Aggs) == 0 {
		l = append(l, fault{item: 6, e: api.ErrState})
	}
	outputs := len(q.Cols)
	if outputs == 0 {
		outputs = len(q.Group) + len(q.Aggs)
	}
	for i, by := range q.Sort {
		if by.Out < 0 || by.Out >= outputs {
			l = append(l, fault{7, 0, i, 0, api.ErrNone})
		}
	}
	for list, cols := range [][]int{q.Cols, q.Group} {
		for i, col := range cols {
			if !there(s, col) {
				l = append(l, fault{4, list, i, 0, api.ErrNone})
			}
		}
	}
	return slices.Concat(l, nodeFaults(s, q), aggFaults(s, q))
}

func nodeFaults(s api.Schema, q api.Query) []fault {
	comparisons := []int{api.Eq, api.Ne, api.Lt, api.Le, api.Gt, api.Ge}
	asks := append([]int{api.All, api.Is, api.And, api.Or, api.Not}, comparisons...)
	var l []fault
	for i, x := range q.Filter {
		found := func(is bool, thing int, e api.Errno) {
			if is {
				l = append(l, fault{3, 0, i, thing, e})
			}
		}
		preceding := func(n int) bool { return n >= 0 && n < i }
		found(!slices.Contains(asks, x.Ask), 0, api.ErrArg)
		if slices.Contains(comparisons, x.Ask) {
			found(!there(s, x.Col), 1, api.ErrNone)
			found(there(s, x.Col) && !(whole(x.Val) && x.Val.Kind == s.Cols[x.Col].Kind), 2, api.ErrKind)
		}
		found(x.Ask == api.Is && !there(s, x.Col), 3, api.ErrNone)
		found(x.Ask == api.And && !(preceding(x.A) && preceding(x.B)), 4, api.ErrState)
		found(x.Ask == api.Or && !(preceding(x.A) && preceding(x.B)), 4, api.ErrState)
		found(x.Ask == api.Not && !preceding(x.A), 5, api.ErrState)
	}
	return l
}

func aggFaults(s api.Schema, q api.Query) []fault {
	var l []fault
	for i, a := range q.Aggs {
		if !slices.Contains([]int{api.Count, api.Sum, api.Min, api.Max, api.Distinct}, a.Fn) {
			l = append(l, fault{5, 0, i, 0, api.ErrArg})
		}
		if !there(s, a.Col) && !(a.Fn == api.Count && a.Col == -1) {
			l = append(l, fault{5, 0, i, 1, api.ErrNone})
		}
		if a.Fn == api.Sum && there(s, a.Col) && s.Cols[a.Col].Kind != api.Int {
			l = append(l, fault{5, 0, i, 2, api.ErrKind})
		}
	}
	return l
}

func there(s api.Schema, col int) bool { return col >= 0 && col < len(s.Cols) }

// whole tells whether v is valid: it has no fields of other kinds.
func whole(v api.Value) bool {
	switch v.Kind {
	case api.Null:
		return v == null()
	case api.Int:
		return v == integer(v.I)
	case api.Str:
		return v == str(v.S) && len(v.S) <= 64
	case api.Bool:
		return v == boolean(v.B)
	}
	return false
}

// modelCheck is Check of a valid schema.
func modelCheck(s api.Schema, q api.Query) api.Errno {
	l := faults(s, q)
	if len(l) == 0 {
		return api.OK
	}
	return slices.MinFunc(l, ahead).e
}

func modelOuts(s api.Schema, q api.Query) []int {
	var l []int
	if modelCheck(s, q) != api.OK {
		return l
	}
	for _, cols := range [][]int{q.Cols, q.Group} {
		for _, col := range cols {
			l = append(l, s.Cols[col].Kind)
		}
	}
	for _, a := range q.Aggs {
		switch a.Fn {
		case api.Count, api.Sum, api.Distinct:
			l = append(l, api.Int)
		case api.Min, api.Max:
			l = append(l, s.Cols[a.Col].Kind)
		}
	}
	return l
}

func modelUses(q api.Query) []int {
	named := map[int]int{}
	for _, cols := range [][]int{q.Cols, q.Group} {
		for _, col := range cols {
			named[col]++
		}
	}
	for _, a := range q.Aggs {
		named[a.Col]++
	}
	for _, x := range q.Filter {
		switch x.Ask {
		case api.Eq, api.Ne, api.Lt, api.Le, api.Gt, api.Ge, api.Is:
			named[x.Col]++
		}
	}
	var l []int
	for col := range named {
		if col >= 0 {
			l = append(l, col)
		}
	}
	slices.Sort(l)
	return l
}

// wantCheck holds Check of a valid schema against want, and the model too.
func wantCheck(t testing.TB, s api.Schema, q api.Query, want api.Errno) {
	t.Helper()
	if e := Check(s, q); e != want {
		t.Fatalf("Check of %+v: error %d, not %d", q, e, want)
	}
	if e := modelCheck(s, q); e != want {
		t.Fatalf("the model's Check of %+v: error %d, not %d", q, e, want)
	}
}

func wantOuts(t testing.TB, s api.Schema, q api.Query, want ...int) {
	t.Helper()
	if l := Outs(s, q); !slices.Equal(l, want) {
		t.Fatalf("Outs of %+v: %v, not %v", q, l, want)
	}
}

func wantUses(t testing.TB, q api.Query, want ...int) {
	t.Helper()
	if l := Uses(q); !slices.Equal(l, want) {
		t.Fatalf("Uses of %+v: %v, not %v", q, l, want)
	}
}

// compare holds all calls against the model, for a valid schema, and returns what Check does.
func compare(t testing.TB, s api.Schema, q api.Query) api.Errno {
	t.Helper()
	keptSchema, kept := copiedSchema(s), copied(q)
	e := modelCheck(s, q)
	wantCheck(t, s, q, e)
	wantOuts(t, s, q, modelOuts(s, q)...)
	wantUses(t, q, modelUses(q)...)
	if !reflect.DeepEqual(s, keptSchema) || !reflect.DeepEqual(q, kept) {
		t.Fatalf("%+v and %+v are %+v and %+v now", keptSchema, kept, s, q)
	}
	return e
}

// random is a function that returns numbers from 0 to n - 1: the same ones for the same seed.
func random(seed int) func(n int) int {
	state := uint64(seed)*2654435761 + 1
	return func(n int) int {
		state ^= state << 13
		state ^= state >> 7
		state ^= state << 17
		return int(state>>11) % n
	}
}

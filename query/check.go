package query

import (
	"winnower/api"
	"winnower/schema"
)

// none is the column of a Count of rows.
const none = -1

// The kinds of errors, by what they are about. An error of a lower number is returned first.
const (
	ofSchema = iota
	ofLimits
	ofFilter
	ofColumns
	ofAggs
	ofParts
	ofSort
	kinds // one more than the last
)

// checks returns, in order, what finds the errors of each kind. Each check relies on those
// ahead of it having found none.
func checks() [kinds]func(api.Schema, api.Query) api.Errno {
	return [kinds]func(api.Schema, api.Query) api.Errno{
		ofSchema:  checkSchema,
		ofLimits:  checkLimits,
		ofFilter:  checkFilter,
		ofColumns: checkColumns,
		ofAggs:    checkAggs,
		ofParts:   checkParts,
		ofSort:    checkSort,
	}
}

func checkSchema(s api.Schema, q api.Query) api.Errno {
	return unless(schema.May(s), api.ErrArg)
}

func checkLimits(s api.Schema, q api.Query) api.Errno {
	short := len(q.Filter) <= api.MaxNodes && len(q.Cols) <= api.MaxCols && max(len(q.Group), len(q.Aggs), len(q.Sort)) <= api.MaxAggs
	return unless(short && isNumber(q.Limit, api.MaxLimit+1), api.ErrLong)
}

func checkColumns(s api.Schema, q api.Query) api.Errno {
	return unless(areColumns(s, q.Cols) && areColumns(s, q.Group), api.ErrNone)
}

func checkAggs(s api.Schema, q api.Query) api.Errno {
	for _, a := range q.Aggs {
		if e := checkAgg(s, a); e != api.OK {
			return e
		}
	}
	return api.OK
}

func checkAgg(s api.Schema, a api.Agg) api.Errno {
	switch {
	case a.Fn < api.Count || a.Fn >= api.Fns:
		return api.ErrArg
	case a.Fn == api.Count && a.Col == none:
		return api.OK
	case !isColumn(s, a.Col):
		return api.ErrNone
	case a.Fn == api.Sum && s.Cols[a.Col].Kind != api.Int:
		return api.ErrKind
	}
	return api.OK
}

// checkParts checks that q asks either for columns or for groups and aggregates.
func checkParts(s api.Schema, q api.Query) api.Errno {
	columns, groups := len(q.Cols) > 0, len(q.Group)+len(q.Aggs) > 0
	return unless(columns != groups, api.ErrState)
}

func checkSort(s api.Schema, q api.Query) api.Errno {
	// The outputs are those of the one part that q has.
	outputs := len(q.Cols) + len(q.Group) + len(q.Aggs)
	for _, by := range q.Sort {
		if !isNumber(by.Out, outputs) {
			return api.ErrNone
		}
	}
	return api.OK
}

// unless returns e unless what is checked holds.
func unless(holds bool, e api.Errno) api.Errno {
	if holds {
		return api.OK
	}
	return e
}

// isNumber reports whether n is the number of one of count things.
func isNumber(n, count int) bool {
	return 0 <= n && n < count
}

func isColumn(s api.Schema, col int) bool {
	return isNumber(col, len(s.Cols))
}

func areColumns(s api.Schema, cols []int) bool {
	for _, col := range cols {
		if !isColumn(s, col) {
			return false
		}
	}
	return true
}

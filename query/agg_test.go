package query

import (
	"math"
	"slices"
	"testing"

	"winnower/api"
)

func aggregated(l ...api.Agg) api.Query {
	return api.Query{Aggs: l}
}

// TestCheckOfAggs has each Fn, and others, with each column, and others.
func TestCheckOfAggs(t *testing.T) {
	for _, s := range []api.Schema{wide(), three(), bare(api.Col{Name: "a", Kind: api.Str}), bare(api.Col{Name: "a", Kind: api.Int, Null: true})} {
		for _, fn := range append(numbers(6), 20, 100) {
			for _, col := range numbers(len(s.Cols)) {
				want := api.OK
				switch {
				case fn < 1 || fn > 5:
					want = api.ErrArg
				case fn == api.Count && col == -1:
				case col < 0 || col >= len(s.Cols):
					want = api.ErrNone
				case fn == api.Sum && s.Cols[col].Kind != api.Int:
					want = api.ErrKind
				}
				a, good := api.Agg{Fn: fn, Col: col}, api.Agg{Fn: api.Count, Col: -1}
				for _, l := range [][]api.Agg{{a}, {a, good}, {good, a}, {good, good, good, a}, {a, a}} {
					wantCheck(t, s, api.Query{Aggs: l}, want)
					wantCheck(t, s, api.Query{Group: []int{0}, Aggs: l}, want)
				}
			}
		}
	}
}

func TestCheckOfSum(t *testing.T) {
	for col, want := range []api.Errno{api.OK, api.OK, api.ErrKind, api.ErrKind, api.ErrKind, api.ErrKind, api.OK, api.ErrKind} {
		wantCheck(t, wide(), aggregated(api.Agg{Fn: api.Sum, Col: col}), want)
		for _, fn := range []int{api.Count, api.Min, api.Max, api.Distinct} {
			wantCheck(t, wide(), aggregated(api.Agg{Fn: fn, Col: col}), api.OK)
		}
	}
	wantCheck(t, wide(), aggregated(api.Agg{Fn: api.Count, Col: -1}), api.OK)
	for _, fn := range []int{api.Sum, api.Min, api.Max, api.Distinct} {
		wantCheck(t, wide(), aggregated(api.Agg{Fn: fn, Col: -1}), api.ErrNone)
	}
	for _, col := range []int{-2, math.MinInt, 8, math.MaxInt} {
		wantCheck(t, wide(), aggregated(api.Agg{Fn: api.Count, Col: col}), api.ErrNone)
		wantCheck(t, wide(), aggregated(api.Agg{Fn: api.Sum, Col: col}), api.ErrNone)
	}
}

// TestFirstAggregateTells has each sequence of four aggregates, with errors or without.
func TestFirstAggregateTells(t *testing.T) {
	type one struct {
		a api.Agg
		e api.Errno
	}
	all := []one{
		{api.Agg{Fn: api.Count, Col: -1}, api.OK}, {api.Agg{Fn: api.Max, Col: 2}, api.OK},
		{api.Agg{Fn: 0, Col: -1}, api.ErrArg}, {api.Agg{Fn: api.Fns, Col: 2}, api.ErrArg},
		{api.Agg{Fn: api.Sum, Col: -1}, api.ErrNone}, {api.Agg{Fn: api.Count, Col: 8}, api.ErrNone},
		{api.Agg{Fn: api.Sum, Col: 2}, api.ErrKind}, {api.Agg{Fn: api.Sum, Col: 5}, api.ErrKind},
	}
	for _, a := range all {
		for _, b := range all {
			for _, c := range all {
				for _, d := range all {
					want := api.OK
					for _, e := range slices.Backward([]api.Errno{a.e, b.e, c.e, d.e}) {
						if e != api.OK {
							want = e
						}
					}
					wantCheck(t, wide(), aggregated(a.a, b.a, c.a, d.a), want)
				}
			}
		}
	}
}

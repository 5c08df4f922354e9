package query

import (
	"winnower/api"
	"winnower/value"
)

// checkFilter returns the error of the first node that has one.
func checkFilter(s api.Schema, q api.Query) api.Errno {
	e := api.OK
nodes:
	for i, x := range q.Filter {
		if e = checkNode(s, x); e != api.OK {
			break nodes
		}
		for _, operand := range operands(x) {
			if !isNumber(operand, i) {
				e = api.ErrState
				break nodes
			}
		}
	}
	return e
}

// checkNode checks all of x but its operands.
func checkNode(s api.Schema, x api.Node) api.Errno {
	switch {
	case x.Ask < api.All || x.Ask >= api.Asks:
		return api.ErrArg
	case namesColumn(x) && !isColumn(s, x.Col):
		return api.ErrNone
	case compares(x) && !(value.May(x.Val) && x.Val.Kind == s.Cols[x.Col].Kind):
		return api.ErrKind
	}
	return api.OK
}

// operands returns the numbers of the nodes that x combines.
func operands(x api.Node) []int {
	switch x.Ask {
	case api.And, api.Or:
		return []int{x.A, x.B}
	case api.Not:
		return []int{x.A}
	}
	return nil
}

func compares(x api.Node) bool {
	return api.Eq <= x.Ask && x.Ask <= api.Ge
}

func namesColumn(x api.Node) bool {
	return compares(x) || x.Ask == api.Is
}

package upsert

import (
	"winnower/api"
	"winnower/bitset"
)

// unsealed is the segment of the rows that are not sealed.
const unsealed = 0

// Seal moves the rows of segment 0 to the segment id, in the given order.
func (t *Table) Seal(id int, order []int) api.Errno {
	if t == nil || !within(id, 1, api.MaxID) || !permutes(order, t.docs[unsealed].Count()) {
		return api.ErrArg
	}
	// Unless one of them has a Doc beyond, n rows have the Docs from 0 to n - 1.
	if t.docs[id].Count() > 0 || !bitset.Same(t.docs[unsealed], bitset.Upto(len(order))) {
		return api.ErrState
	}
	// Of segments without rows nothing is kept.
	if len(order) > 0 {
		t.move(id, order)
	}
	return api.OK
}

// move moves the rows of segment 0, whose Docs order permutes, to the segment id, which has none.
func (t *Table) move(id int, order []int) {
	docs := inverse(order)
	sealed := map[api.Value]api.Winner{}
	for key, w := range t.winners[unsealed] {
		w.At = api.Place{Seg: id, Doc: docs[w.At.Doc]}
		sealed[key] = w
		t.segments[key] = id
	}
	t.winners[id], t.docs[id] = sealed, bitset.Upto(len(order))
	delete(t.winners, unsealed)
	delete(t.docs, unsealed)
}

// permutes reports whether order is a permutation of the numbers from 0 to n - 1.
func permutes(order []int, n int) bool {
	// n elements contain n different numbers only if each number is one of them once.
	return len(order) == n && bitset.Same(bitset.Of(order...), bitset.Upto(n))
}

// inverse returns for each number the index at which it is in order, a permutation.
func inverse(order []int) []int {
	l := make([]int, len(order))
	for i, number := range order {
		l[number] = i
	}
	return l
}

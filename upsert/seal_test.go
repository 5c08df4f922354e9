package upsert

import (
	"math"
	"slices"
	"testing"

	"winnower/api"
)

// samples are the rows of segment 0 of tables with Docs from 0 on: winners, rows that lose, and
// winners that delete their keys.
func samples() [][]added {
	return [][]added{
		{},
		{place(0, 1, 5, 10)},
		{place(0, 1, 5, 10).deleting()},
		{place(1, 1, 5, 10), place(0, 2, 5, 11)},
		{place(0, 1, 5, 10), place(1, 1, 4, 11)},
		{place(2, 1, 5, 10), place(0, 2, 5, 11).deleting(), place(1, 1, 6, 9)},
		{place(0, 1, 5, 10), place(1, 1, 5, 11), place(2, 1, 5, 12)},
		{place(3, 1, 5, 10), place(1, 2, 5, 11), place(0, 3, 5, 12), place(2, 2, 5, 13)},
		{place(0, 1, 5, 10), place(1, 2, 5, 11), place(2, 1, 3, 12).deleting(), place(3, 3, 5, 13), place(4, 2, 8, 14).deleting()},
	}
}

// others are rows of other segments, some of which win over rows of samples.
func others() []added {
	return []added{place(0, 2, 9, 20).in(1), place(7, 3, 5, 21).in(1).deleting(), place(greatestDoc, 9, 5, 22).in(2), place(0, 1, 2, 23).in(2), place(3, 1, 2, 24).in(greatestID)}
}

func TestSealInEachOrder(t *testing.T) {
	for _, s := range []api.Schema{keyed(), withoutDel(), withoutKey()} {
		for _, l := range samples() {
			for _, more := range [][]added{nil, others()} {
				p := filled(t, s, append(slices.Clone(l), more...)...)
				for _, order := range permutations(len(l)) {
					q := p.copied(t)
					q.wantSeal(t, 4, order, api.OK)
					for i, doc := range order {
						wantMoved(t, p, q, doc, i)
					}
				}
			}
		}
	}
}

// wantMoved checks that the row that was at doc of segment 0 of p is row i of segment 4 of q.
func wantMoved(t *testing.T, p, q pair, doc, i int) {
	t.Helper()
	if p.t.Valid(0).Has(doc) != q.t.Valid(4).Has(i) || q.t.Valid(0).Count() > 0 {
		t.Fatalf("whether the row at %d counts is changed at %d", doc, i)
	}
	key := p.m.rows[slices.IndexFunc(p.m.rows, func(x added) bool { return x.at == api.Place{Doc: doc} })].row[0]
	w, there := p.t.Find(key)
	if there && w.At == (api.Place{Doc: doc}) {
		w.At = api.Place{Seg: 4, Doc: i}
		wantFound(t, q.t, key, w)
	}
}

func TestSealToEachID(t *testing.T) {
	for _, s := range []api.Schema{keyed(), withoutKey()} {
		for _, l := range samples() {
			for _, id := range append(numbers(greatestID), 7, greatestDoc, greatestDoc+1, 1<<32, 1<<32+1) {
				p := filled(t, s, l...)
				want := api.OK
				if id < 1 || id > greatestID {
					want = api.ErrArg
				}
				p.wantSeal(t, id, upto(len(l)), want)
			}
		}
	}
}

// TestSealInWrongOrders has all lists of up to four numbers from -1 to 4.
func TestSealInWrongOrders(t *testing.T) {
	lists := [][]int{nil}
	for i := 0; i < len(lists); i++ {
		if len(lists[i]) == 4 {
			break
		}
		for n := -1; n <= 4; n++ {
			lists = append(lists, append(slices.Clone(lists[i]), n))
		}
	}
	for _, s := range []api.Schema{keyed(), withoutKey()} {
		for _, l := range samples()[:7] {
			p, sealed := filled(t, s, l...), 0
			for _, order := range lists {
				q := p
				if slices.Equal(slices.Sorted(slices.Values(order)), upto(len(l))) {
					q = p.copied(t)
					sealed++
				}
				q.seal(t, 4, order)
				q.compareSegment(t, 4)
				q.compareSegment(t, 0)
				q.compareKey(t, integer(1))
			}
			p.compare(t)
			if want := len(permutations(len(l))); sealed != want {
				t.Errorf("%d orders of %d rows were taken, not %d", sealed, len(l), want)
			}
		}
	}
}

// TestSealInFarOrders has numbers that are, in fewer bits, those of a permutation.
func TestSealInFarOrders(t *testing.T) {
	p := filled(t, keyed(), samples()[6]...)
	for _, order := range [][]int{
		{0, 1, math.MaxInt}, {0, 1, math.MinInt}, {math.MinInt, 1, 2}, {0, 1, 2 + 1<<32}, {1 << 16, 1, 2}, {1<<16 + 1, 0, 2}, {-3, -2, -1}, {0, -1, -2}, {0, 1, 1 << 62},
		{0, 1, 2, greatestDoc}, {0, 1, 2, greatestDoc + 1}, {0, 1, 2, -1}, {0, 1, 2, math.MaxInt}, {0, 1, 2, 0}, {0, 0, 1, 2}, {1, 2, 3}, {0, 1, 3}, {0, 2, 2}, {1, 1, 1}, make([]int, 100000), upto(greatestDoc + 1), upto(greatestDoc + 2),
	} {
		p.wantSeal(t, 4, order, api.ErrArg)
	}
	for _, order := range [][]int{{0}, {-1}, {greatestDoc + 1}, {math.MaxInt}, {0, 1, 2}, make([]int, 100000)} {
		filled(t, keyed()).wantSeal(t, 4, order, api.ErrArg)
		filled(t, keyed(), others()...).wantSeal(t, 4, order, api.ErrArg)
	}
	p.wantSeal(t, 4, []int{2, 0, 1}, api.OK)
}

// TestSealToASegmentWithRows has rows there that count, that lose and that delete their keys, at
// the first Doc, at the last one and between them.
func TestSealToASegmentWithRows(t *testing.T) {
	for _, s := range []api.Schema{keyed(), withoutKey()} {
		for _, l := range samples() {
			for _, doc := range []int{0, 1, 2, 5, 64, greatestDoc} {
				for _, x := range []added{place(doc, 99, 5, 20), place(doc, 99, 5, 20).deleting(), place(doc, 1, 1, 20), place(doc, 1, 9, 20)} {
					for _, id := range []int{1, 2, greatestID} {
						p := filled(t, s, append(slices.Clone(l), x.in(id))...)
						p.wantSeal(t, id, upto(len(l)), api.ErrState)
						p.wantSeal(t, id, append(upto(len(l)), 0), api.ErrArg)
						p.wantSeal(t, 3-id%2, upto(len(l)), api.OK)
					}
				}
			}
		}
	}
}

// TestSealWithGaps has a Doc in segment 0 of at least the number of its rows.
func TestSealWithGaps(t *testing.T) {
	for _, s := range []api.Schema{keyed(), withoutKey()} {
		for _, docs := range [][]int{{1}, {2}, {64}, {greatestDoc}, {0, 2}, {1, 2}, {0, greatestDoc}, {64, 0}, {0, 1, 3}, {3, 2, 1}, {0, 2, 3}, {0, 1, greatestDoc}, {0, 1, 2, 4}} {
			for _, cmps := range [][]int{{5, 5, 5, 5}, {5, 4, 3, 2}} {
				p := empty(t, s)
				for i, doc := range docs {
					// With one key, only the first row wins.
					p.wantAdd(t, place(doc, i*(cmps[1]-4), cmps[i], i), api.OK)
				}
				wantGap(t, p, len(docs))
				// The next row does not close all gaps of these.
				if doc := slices.Max(docs); doc < greatestDoc && doc > len(docs) {
					p.wantAdd(t, place(doc+1, 0, 9, 9), api.OK)
					wantGap(t, p, len(docs)+1)
				}
			}
		}
	}
	p := filled(t, keyed(), place(1, 1, 5, 10), place(2, 1, 5, 11))
	wantGap(t, p, 2)
	p.wantAdd(t, place(0, 1, 5, 9), api.OK)
	p.wantSeal(t, 7, []int{2, 0, 1}, api.OK)
}

// wantGap seals p, which has n rows in segment 0 with a gap, in right and in wrong orders.
func wantGap(t *testing.T, p pair, n int) {
	t.Helper()
	for _, order := range permutations(n) {
		p.seal(t, 7, order)
		p.wantSeal(t, greatestID, order, api.ErrState)
	}
	docs := p.m.docs(0)
	for _, order := range [][]int{nil, upto(n - 1), upto(n + 1), docs, make([]int, n+1), append(upto(n-1), n), append(upto(n-1), -1)} {
		p.wantSeal(t, 7, order, api.ErrArg)
	}
	p.wantSeal(t, 0, upto(n), api.ErrArg)
	p.wantSeal(t, greatestID+1, upto(n), api.ErrArg)
	p.wantSeal(t, -1, docs, api.ErrArg)
}

// TestSealOfSeveralFaults combines ids, orders, gaps and rows in the segment.
func TestSealOfSeveralFaults(t *testing.T) {
	counts := map[api.Errno]int{}
	for _, s := range []api.Schema{keyed(), withoutKey()} {
		for _, gap := range []int{0, 1} {
			p := filled(t, s, place(0, 1, 5, 10), place(1+gap, 2, 5, 11), place(0, 3, 5, 12).in(6))
			for _, id := range []int{5, 6, 0, -1, greatestID + 1, math.MinInt, math.MaxInt} {
				for _, order := range [][]int{{0, 1}, {1, 0}, nil, {0}, {0, 2}, {2, 0}, {1, 1}, {-1, 0}, {0, 1, 2}} {
					q := p.copied(t)
					counts[q.seal(t, id, order)]++
					q.compare(t)
				}
			}
		}
	}
	if counts[api.OK] != 2*2 || counts[api.ErrState] != 2*2*3 || counts[api.ErrArg] != 2*2*(7*9-4) {
		t.Errorf("%v", counts)
	}
}

// TestSealOfNoRows: it has no effect, so that the segment still has no row.
func TestSealOfNoRows(t *testing.T) {
	for _, s := range []api.Schema{keyed(), withoutDel(), withoutKey()} {
		p := empty(t, s)
		for _, order := range [][]int{nil, {}, make([]int, 0, 5)} {
			p.wantSeal(t, 1, order, api.OK)
			p.wantSeal(t, greatestID, order, api.OK)
			p.wantSeal(t, 0, order, api.ErrArg)
		}
		p.wantAdd(t, place(0, 1, 5, 10), api.OK)
		p.wantSeal(t, 1, []int{0}, api.OK)
		p.wantSeal(t, 1, nil, api.ErrState)
		p.wantSeal(t, 2, nil, api.OK)
		p.wantAdd(t, place(0, 2, 5, 11).in(2), api.OK)
		p.wantSeal(t, 2, nil, api.ErrState)
	}
}

// TestAddBehindSeal: segment 0 takes rows again, and the rows that were sealed are still compared.
func TestAddBehindSeal(t *testing.T) {
	p := filled(t, keyed(), place(0, 1, 5, 10), place(1, 2, 5, 11), place(2, 3, 5, 12).deleting(), place(3, 1, 4, 13))
	p.wantSeal(t, 1, []int{3, 1, 0, 2}, api.OK)
	wantFound(t, p.t, integer(1), api.Winner{At: api.Place{Seg: 1, Doc: 2}, Cmp: 5, Offset: 10})
	wantFound(t, p.t, integer(2), api.Winner{At: api.Place{Seg: 1, Doc: 1}, Cmp: 5, Offset: 11})
	wantFound(t, p.t, integer(3), api.Winner{At: api.Place{Seg: 1, Doc: 3}, Cmp: 5, Offset: 12, Gone: true})
	wantCounting(t, p.t, 1, 1, 2)
	wantCounting(t, p.t, 0)
	for doc := range 4 {
		p.wantAdd(t, place(doc, 9, 5, 20).in(1), api.ErrState)
	}
	p.wantAdd(t, place(0, 1, 5, 10), api.ErrState)
	p.wantAdd(t, place(0, 1, 5, 9), api.OK)
	p.wantAdd(t, place(0, 2, 5, 20), api.ErrState)
	p.wantAdd(t, place(1, 2, 5, 20), api.OK)
	p.wantAdd(t, place(2, 3, 6, 0), api.OK)
	p.wantAdd(t, place(4, 1, 9, 9).in(1), api.OK)
	wantCounting(t, p.t, 0, 1, 2)
	wantCounting(t, p.t, 1, 4)
	p.wantSeal(t, 1, []int{0, 1, 2}, api.ErrState)
	p.wantSeal(t, 2, []int{2, 0, 1}, api.OK)
	wantCounting(t, p.t, 2, 0, 2)
	wantCounting(t, p.t, 1, 4)
}

// TestManySeals seals the same rows to one segment after another, while others come.
func TestManySeals(t *testing.T) {
	for _, s := range []api.Schema{keyed(), withoutDel(), withoutKey()} {
		p := empty(t, s)
		for round := range 30 {
			orders := permutations(1 + round%4)
			order := orders[round%len(orders)]
			for doc := range order {
				x := place(doc, (round+doc)%7, round%3, 10*round+doc)
				if (round+doc)%5 == 0 {
					x = x.deleting()
				}
				p.wantAdd(t, x, api.OK)
			}
			p.wantSeal(t, greatestID-round*round, order, api.OK)
			p.wantSeal(t, greatestID-round*round, nil, api.ErrState)
		}
	}
}

package upsert

import (
	"maps"
	"slices"
	"testing"

	"winnower/api"
	"winnower/bitset"
)

// wantSame checks that two tables tell the same of the keys and segments of rows.
func wantSame(t testing.TB, a, b *Table, rows []added) {
	t.Helper()
	if a.Keys() != b.Keys() {
		t.Fatalf("%d keys and %d, of %v", a.Keys(), b.Keys(), rows)
	}
	for _, x := range rows {
		v, here := a.Find(x.row[0])
		w, there := b.Find(x.row[0])
		if v != w || here != there || !bitset.Same(a.Valid(x.at.Seg), b.Valid(x.at.Seg)) {
			t.Fatalf("%v, %t and %v, %t, of %v", v, here, w, there, rows)
		}
	}
}

// lists are rows that are added in each order.
func lists() [][]added {
	return [][]added{
		{place(0, 1, 5, 10), place(1, 1, 3, 11), place(2, 1, 5, 12)},
		{place(0, 1, 5, 10), place(1, 1, 5, 11).deleting(), place(2, 1, 5, 12), place(0, 1, 6, 9).in(3).deleting()},
		{place(4, 1, 5, 10), place(2, 2, 5, 10), place(0, 1, 5, 11).in(2), place(1, 2, 4, 12).in(2), place(7, 3, 0, 0)},
		{place(0, 1, 9, 10), place(1, 1, 5, 11), place(2, 1, 5, 11), place(3, 1, 5, 11).deleting(), place(4, 1, 5, 12)},
		{place(0, 1, -5, 0), place(1, 1, -5, 1), place(2, 1, -6, 2), place(3, 1, -4, 0), place(4, 1, -4, 1), place(5, 1, -7, farthest)},
	}
}

// TestEachOrderOfAdds compares the orders in which no Add answers an error: only of the fourth list there are others.
func TestEachOrderOfAdds(t *testing.T) {
	for _, s := range []api.Schema{keyed(), withoutDel(), withoutKey()} {
		for i, l := range lists() {
			first, refused := filled(t, s, l...), 0
			for _, order := range permutations(len(l)) {
				p, ok := empty(t, s), true
				for _, n := range order {
					ok = p.add(t, l[n]) == api.OK && ok
				}
				p.compare(t)
				if ok {
					wantSame(t, p.t, first.t, l)
				} else {
					refused++
				}
			}
			if (refused > 0) != (i == 3 && s.Key != -1) {
				t.Errorf("list %d is refused in %d orders", i, refused)
			}
		}
	}
}

// drawnRow is a row of few keys, Cmp values and offsets, at one of few places, or of many.
func drawnRow(draw func(int) int, few int) added {
	x := place(draw(4*few), draw(few), draw(3)-1, draw(2*few)).in(draw(3))
	if draw(3) == 0 {
		x = x.deleting()
	}
	return x
}

// TestDrawnOrdersOfAdds adds rows that were all added once more, in other orders.
func TestDrawnOrdersOfAdds(t *testing.T) {
	same := 0
	for seed := range 300 {
		draw := random(seed)
		p := empty(t, keyed())
		for range 40 {
			p.add(t, drawnRow(draw, 2+seed%7))
		}
		p.compare(t)
		for range 5 {
			l := slices.Clone(p.m.rows)
			for i := range l {
				j := i + draw(len(l)-i)
				l[i], l[j] = l[j], l[i]
			}
			q, ok := empty(t, keyed()), true
			for _, x := range l {
				ok = q.add(t, x) == api.OK && ok
			}
			q.compare(t)
			if ok {
				wantSame(t, p.t, q.t, l)
				same++
			}
		}
	}
	if same < 100 {
		t.Errorf("only %d orders were taken", same)
	}
}

// TestOneRowOfEachKeyCounts counts them behind each of many events.
func TestOneRowOfEachKeyCounts(t *testing.T) {
	for seed := range 60 {
		draw := random(seed)
		p := empty(t, keyed())
		for range 60 {
			drawnEvent(t, p, draw)
			wantOneRowOfEachKey(t, p)
		}
		p.compare(t)
	}
}

func wantOneRowOfEachKey(t *testing.T, p pair) {
	t.Helper()
	counts := map[api.Value]int{}
	for _, x := range p.m.rows {
		if p.t.Valid(x.at.Seg).Has(x.at.Doc) {
			counts[x.row[0]]++
			w, there := p.t.Find(x.row[0])
			if !there || w.At != x.at || w.Gone || counts[x.row[0]] > 1 {
				t.Fatalf("%v counts, the winner is %v, %t, of %v", x, w, there, p.m.rows)
			}
		}
	}
	for _, key := range p.m.keys() {
		if w, there := p.t.Find(key); !there || w.Gone != (counts[key] == 0) {
			t.Fatalf("%d rows of %v count, the winner is %v, %t", counts[key], key, w, there)
		}
	}
}

// drawnEvent adds a row to p, mostly at the next place of segment 0, or seals it.
func drawnEvent(t *testing.T, p pair, draw func(int) int) {
	t.Helper()
	n := len(p.m.docs(0))
	switch draw(8) {
	case 0:
		order := upto(n)
		for i := range order {
			j := i + draw(n-i)
			order[i], order[j] = order[j], order[i]
		}
		p.seal(t, 1+draw(12), order)
	case 1:
		p.seal(t, draw(4), []int{draw(3), draw(3)})
	case 2:
		p.add(t, drawnRow(draw, 5))
	default:
		x := drawnRow(draw, 4)
		x.at = api.Place{Doc: n}
		x.offset = draw(100)
		p.add(t, x)
	}
}

// TestDrawnEvents holds tables against the model behind each event.
func TestDrawnEvents(t *testing.T) {
	sealed := 0
	for seed := range 120 {
		draw := random(seed)
		p := empty(t, []api.Schema{keyed(), withoutDel(), withoutKey()}[seed%3])
		for range 40 {
			drawnEvent(t, p, draw)
			p.compare(t)
		}
		sealed += len(p.m.rows) - len(p.m.docs(0))
	}
	if sealed < 500 {
		t.Errorf("only %d rows are sealed", sealed)
	}
}

// TestShortSequences has all sequences of four of some events.
func TestShortSequences(t *testing.T) {
	rows := []added{place(0, 1, 5, 10), place(1, 1, 5, 11), place(1, 1, 6, 9).deleting(), place(0, 2, 5, 10), place(0, 1, 5, 10).in(1), place(1, 1, 4, 12).in(1)}
	orders := [][]int{nil, {0}, {0, 1}, {1, 0}}
	events := len(rows) + len(orders)
	for _, s := range []api.Schema{keyed(), withoutKey()} {
		for sequence := range events * events * events * events {
			p := empty(t, s)
			for range 4 {
				if next := sequence % events; next < len(rows) {
					p.add(t, rows[next])
				} else {
					p.seal(t, 1, orders[next-len(rows)])
				}
				sequence /= events
			}
			for seg := range 3 {
				p.compareSegment(t, seg)
			}
			p.compareKey(t, integer(1))
			p.compareKey(t, integer(2))
		}
	}
}

// counting are how many of p's rows with each offset count.
func counting(p pair) map[int]int {
	l := map[int]int{}
	for _, x := range p.m.rows {
		if p.t.Valid(x.at.Seg).Has(x.at.Doc) {
			l[x.offset]++
		}
	}
	return l
}

// TestSealChangesNothingThatCounts tells rows apart by their offsets.
func TestSealChangesNothingThatCounts(t *testing.T) {
	for seed := range 200 {
		draw := random(seed)
		p := empty(t, []api.Schema{keyed(), withoutDel(), withoutKey()}[seed%3])
		offset := 0
		for id := range 5 {
			n := draw(7)
			for doc := range n {
				x := drawnRow(draw, 4)
				x.at, x.offset = api.Place{Doc: doc}, offset
				offset++
				p.add(t, x)
			}
			orders := permutations(min(n, 5))
			order := append(slices.Clone(orders[draw(len(orders))]), upto(n)[min(n, 5):]...)
			before, keys, winners := counting(p), p.t.Keys(), found(p)
			if e := p.seal(t, 1+id, order); e != api.OK {
				t.Fatalf("Seal: error %d", e)
			}
			if after := counting(p); !maps.Equal(before, after) || p.t.Keys() != keys || !maps.Equal(winners, found(p)) {
				t.Fatalf("%v counted before, %v after the Seal of %v", before, after, p.m.rows)
			}
		}
	}
}

// found are the winners of all keys, without their places.
func found(p pair) map[api.Value]api.Winner {
	l := map[api.Value]api.Winner{}
	for _, key := range p.m.keys() {
		w, _ := p.t.Find(key)
		w.At = api.Place{}
		l[key] = w
	}
	return l
}

// TestArgumentsAreNotChanged looks at what was handed in, and at the room behind it.
func TestArgumentsAreNotChanged(t *testing.T) {
	s := wide(0, 6, 4)
	s.Cols = append(make([]api.Col, 0, 20), s.Cols...)
	table, e := New(s)
	if e != api.OK || !slices.Equal(s.Cols, wide(0, 6, 4).Cols) || s.Cols[:9][8] != (api.Col{}) {
		t.Errorf("New changed %v, error %d", s.Cols[:9], e)
	}
	l := append(make([]api.Value, 0, 20), fitting()...)
	for _, x := range []added{{at: api.Place{}, offset: 7}, {at: api.Place{}, offset: 8}, {at: api.Place{Doc: 1}, offset: 7}, {at: api.Place{Doc: 1}, offset: 6}, {at: api.Place{Doc: 2}, offset: 9}, {offset: -1}} {
		table.Add(l, x.at, x.offset)
		if !slices.Equal(l, fitting()) || l[:9][8] != (api.Value{}) {
			t.Errorf("Add changed %v", l[:9])
		}
	}
	for _, want := range [][]int{{2, 0}, {2, 2, 0}, {2, 0, 1, 3}, {2, 0, 1}} {
		order := append(make([]int, 0, 20), want...)
		if e := table.Seal(1, order); (e == api.OK) != (len(want) == 3 && want[1] == 0) {
			t.Errorf("Seal in the order %v: error %d", want, e)
		}
		if !slices.Equal(order, want) || order[:9][8] != 0 {
			t.Errorf("Seal changed %v to %v", want, order[:9])
		}
	}
}

// TestChangesOfArguments: later changes of what was handed in change nothing.
func TestChangesOfArguments(t *testing.T) {
	s := keyed()
	p := empty(t, s)
	s.Cols[0], s.Cols[1], s.Cols[2] = api.Col{Name: "x", Kind: api.Str}, api.Col{}, api.Col{Name: "x", Kind: api.Int, Null: true}
	l := row(1, 5, false)
	p.wantAdd(t, added{l, api.Place{}, 10}, api.OK)
	l[0], l[1], l[2] = integer(2), integer(9), boolean(true)
	p.compare(t)
	p.wantAdd(t, added{l, api.Place{Doc: 1}, 11}, api.OK)
	l[0], l[1] = integer(1), null()
	p.compare(t)
	p.wantAdd(t, added{l, api.Place{Doc: 2}, 12}, api.ErrArg)
	order := []int{1, 0}
	p.wantSeal(t, 1, order, api.OK)
	order[0], order[1] = 0, 7
	p.compare(t)
	// What was handed to one table is handed to another one.
	q := empty(t, p.m.s)
	l = row(1, 5, false)
	q.wantAdd(t, added{l, api.Place{}, 10}, api.OK)
	l[1] = integer(8)
	p.wantAdd(t, added{l, api.Place{}, 10}, api.OK)
	q.compare(t)
}

// TestChangesOfAnswers: neither a change of what was answered nor a later call changes the other.
func TestChangesOfAnswers(t *testing.T) {
	for _, s := range []api.Schema{keyed(), withoutKey()} {
		p := filled(t, s, place(0, 1, 5, 10), place(1, 2, 5, 11), place(2, 3, 5, 12))
		set, table := p.t.Valid(0), p.t
		w, _ := table.Find(integer(1))
		set.With(9)
		set.Without(1)
		set.And(bitset.Of(1))
		set.Or(bitset.Of(7))
		set.Not(5)
		w.Cmp, w.At.Doc = 100, 7
		for i := range set.All() {
			p.add(t, place(10+i, 1+i, 6, 20))
			p.add(t, place(10+i, i, 6, 21).in(1))
		}
		p.compare(t)
		if !bitset.Same(set, bitset.Of(0, 1, 2)) {
			t.Errorf("%v was 0, 1, 2", slices.Collect(set.All()))
		}
		q := filled(t, s, place(0, 1, 5, 10), place(1, 2, 5, 11))
		before := q.t.Valid(0)
		q.wantSeal(t, 1, []int{1, 0}, api.OK)
		after := q.t.Valid(1)
		q.wantAdd(t, place(5, 2, 9, 9), api.OK)
		q.wantAdd(t, place(6, 2, 9, 10).in(1), api.OK)
		if !bitset.Same(before, bitset.Of(0, 1)) || !bitset.Same(after, bitset.Of(0, 1)) {
			t.Errorf("%v and %v were 0, 1", slices.Collect(before.All()), slices.Collect(after.All()))
		}
	}
}

// TestTablesAreApart: tables of one schema share nothing.
func TestTablesAreApart(t *testing.T) {
	s := keyed()
	p, q := empty(t, s), empty(t, s)
	p.wantAdd(t, place(0, 1, 5, 10), api.OK)
	q.compare(t)
	q.wantAdd(t, place(0, 1, 5, 10).deleting(), api.OK)
	p.wantSeal(t, 1, []int{0}, api.OK)
	q.compare(t)
	q.wantAdd(t, place(0, 2, 5, 10).in(1), api.OK)
	p.compare(t)
}

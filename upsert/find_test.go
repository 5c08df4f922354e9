package upsert

import (
	"math"
	"slices"
	"testing"

	"winnower/api"
)

func wantFound(t *testing.T, table *Table, key api.Value, want api.Winner) {
	t.Helper()
	if w, there := table.Find(key); !there || w != want {
		t.Errorf("Find of %v: %v, %t, not %v", key, w, there, want)
	}
}

func wantNotFound(t *testing.T, table *Table, keys ...api.Value) {
	t.Helper()
	for _, key := range keys {
		if w, there := table.Find(key); there || w != (api.Winner{}) {
			t.Errorf("Find of %v: %v, %t", key, w, there)
		}
	}
}

func wantCounting(t *testing.T, table *Table, seg int, want ...int) {
	t.Helper()
	if l := slices.Collect(table.Valid(seg).All()); !slices.Equal(l, want) {
		t.Errorf("Valid of %d: %v, not %v", seg, l, want)
	}
}

func TestFind(t *testing.T) {
	p := filled(t, keyed(),
		place(0, 1, -7, 3),                                      // one row
		place(1, 2, 5, 4), place(2, 2, 6, 5), place(3, 2, 5, 6), // several rows
		place(4, 3, 5, 7), place(8, 3, 5, 8).deleting().in(2), // a winner that deletes the key
		place(5, 0, 0, 0), // nothing but zeros
	)
	wantFound(t, p.t, integer(1), api.Winner{Cmp: -7, Offset: 3})
	wantFound(t, p.t, integer(2), api.Winner{At: api.Place{Doc: 2}, Cmp: 6, Offset: 5})
	wantFound(t, p.t, integer(3), api.Winner{At: api.Place{Seg: 2, Doc: 8}, Cmp: 5, Offset: 8, Gone: true})
	wantFound(t, p.t, integer(0), api.Winner{At: api.Place{Doc: 5}})
	wantNotFound(t, p.t, integer(4), integer(-1), integer(1<<32+1), str("1"), str(""), str("\x01"), boolean(true), boolean(false), null())
	wantNotFound(t, p.t, api.Value{I: 1}, api.Value{Kind: api.Str, I: 1}, api.Value{Kind: api.Int, I: 1, S: "a"}, api.Value{Kind: api.Int, I: 1, B: true}, api.Value{Kind: 4, I: 1})
	if n := p.t.Keys(); n != 4 {
		t.Errorf("%d keys", n)
	}
	wantCounting(t, p.t, 0, 0, 2, 5)
	wantCounting(t, p.t, 2)
	for _, seg := range []int{1, 3, -1, greatestID, greatestID + 1, math.MinInt, math.MaxInt} {
		wantCounting(t, p.t, seg)
	}
}

func TestFindOfTextsAndTruths(t *testing.T) {
	texts := empty(t, with(0, 1, 2, three(api.Str)...))
	wantNotFound(t, texts.t, strangers()...)
	texts.wantAdd(t, added{[]api.Value{str(""), integer(5), boolean(false)}, api.Place{Doc: 1}, 2}, api.OK)
	wantFound(t, texts.t, str(""), api.Winner{At: api.Place{Doc: 1}, Cmp: 5, Offset: 2})
	wantNotFound(t, texts.t, str("a"), str("\x00"), integer(0), boolean(false), null())
	truths := empty(t, with(0, 1, 2, three(api.Bool)...))
	truths.wantAdd(t, added{[]api.Value{boolean(false), integer(5), boolean(true)}, api.Place{Doc: 1}, 2}, api.OK)
	wantFound(t, truths.t, boolean(false), api.Winner{At: api.Place{Doc: 1}, Cmp: 5, Offset: 2, Gone: true})
	wantNotFound(t, truths.t, boolean(true), str(""), integer(0), null())
}

// TestTablesWithoutKey: no key has a winner, and all rows count.
func TestTablesWithoutKey(t *testing.T) {
	p := empty(t, withoutKey())
	for i, x := range []added{place(7, 1, 5, 9), place(0, 1, 5, 9), place(greatestDoc, 1, 4, 8), place(64, 2, 5, 9).deleting(), place(63, 1, 9, 99).deleting().in(4), place(3, 1, 0, 0).in(4)} {
		p.wantAdd(t, x, api.OK)
		wantNotFound(t, p.t, strangers()...)
		if n := p.t.Keys(); n != 0 {
			t.Errorf("%d keys behind %d rows", n, i+1)
		}
	}
	wantCounting(t, p.t, 0, 0, 7, 64, greatestDoc)
	wantCounting(t, p.t, 4, 3, 63)
	wantCounting(t, p.t, 1)
}

func TestKeys(t *testing.T) {
	for _, s := range []api.Schema{keyed(), withoutDel()} {
		p := empty(t, s)
		if n := p.t.Keys(); n != 0 {
			t.Errorf("%d keys of an empty table", n)
		}
		for i, key := range []int{1, 1, 2, 1, 3, 3, 2, -1} {
			want := []int{1, 1, 2, 2, 3, 3, 3, 4}[i]
			x := place(i, key, i, 0)
			if i%2 == 0 {
				x = x.deleting()
			}
			p.wantAdd(t, x, api.OK)
			p.wantAdd(t, x, api.ErrState)
			if n := p.t.Keys(); n != want {
				t.Errorf("%d keys behind %d rows, not %d", n, i+1, want)
			}
		}
	}
}

// TestValid has rows at Docs in no order and with gaps.
func TestValid(t *testing.T) {
	docs := []int{100, 3, greatestDoc, 0, 64, 63, 65534, 4096, 7, 128, 127}
	for _, s := range []api.Schema{keyed(), withoutDel(), withoutKey()} {
		for _, seg := range []int{0, 1, greatestID} {
			p := empty(t, s)
			for i, doc := range docs {
				p.wantAdd(t, place(doc, i, 5, i).in(seg), api.OK)
				wantCounting(t, p.t, seg, slices.Sorted(slices.Values(docs[:i+1]))...)
			}
			// One after the other, their keys are won by rows of another segment.
			for i, doc := range docs {
				p.wantAdd(t, place(doc, i, 6, 0).in(7), api.OK)
				if s.Key == -1 {
					wantCounting(t, p.t, seg, slices.Sorted(slices.Values(docs))...)
				} else {
					wantCounting(t, p.t, seg, slices.Sorted(slices.Values(docs[i+1:]))...)
				}
			}
			wantCounting(t, p.t, 7, slices.Sorted(slices.Values(docs))...)
		}
	}
}

// TestFullSegment has all Docs of a segment, from the last one on.
func TestFullSegment(t *testing.T) {
	for _, s := range []api.Schema{keyed(), withoutKey()} {
		table := empty(t, s).t
		for doc := greatestDoc; doc >= 0; doc-- {
			if e := table.Add(row(doc/2, 5, false), api.Place{Doc: doc}, doc%2); e != api.OK {
				t.Fatalf("Add at %d: error %d", doc, e)
			}
		}
		order := upto(greatestDoc + 1)
		slices.Reverse(order)
		if e := table.Seal(3, order[1:]); e != api.ErrArg {
			t.Fatalf("Seal: error %d", e)
		}
		if e := table.Seal(3, order); e != api.OK {
			t.Fatalf("Seal: error %d", e)
		}
		for doc := range greatestDoc + 1 {
			// The last of two rows of a key wins, which is the first one now.
			if table.Valid(0).Has(doc) {
				t.Fatalf("%d is still in segment 0", doc)
			}
			if w, there := table.Find(integer(doc)); s.Key != -1 && doc <= greatestDoc/2 && (!there || w != api.Winner{At: api.Place{Seg: 3, Doc: greatestDoc - 2*doc - 1}, Cmp: 5, Offset: 1}) {
				t.Fatalf("the winner of %d: %v, %t", doc, w, there)
			}
			if e := table.Add(row(doc, 5, false), api.Place{Seg: 3, Doc: doc}, 0); e != api.ErrState {
				t.Fatalf("Add at %d: error %d", doc, e)
			}
		}
		set := table.Valid(3)
		for doc := range greatestDoc + 1 {
			if set.Has(doc) != (s.Key == -1 || doc%2 == 0) {
				t.Fatalf("whether %d counts is not told", doc)
			}
		}
	}
}

package upsert

import (
	"math"
	"slices"
	"strings"
	"testing"

	"winnower/api"
)

func TestExample(t *testing.T) {
	p := empty(t, keyed())
	p.wantAdd(t, place(0, 1, 5, 0), api.OK)
	p.wantAdd(t, place(1, 1, 3, 1), api.OK)
	if w, there := p.t.Find(integer(1)); !there || w != (api.Winner{Cmp: 5}) {
		t.Errorf("%v, %t", w, there)
	}
	if l := slices.Collect(p.t.Valid(0).All()); !slices.Equal(l, []int{0}) {
		t.Errorf("%v", l)
	}
	p.wantAdd(t, place(2, 1, 5, 2), api.OK)
	if w, there := p.t.Find(integer(1)); !there || w != (api.Winner{At: api.Place{Doc: 2}, Cmp: 5, Offset: 2}) {
		t.Errorf("%v, %t", w, there)
	}
	if l := slices.Collect(p.t.Valid(0).All()); !slices.Equal(l, []int{2}) {
		t.Errorf("%v", l)
	}
	if n := p.t.Keys(); n != 1 {
		t.Errorf("%d keys", n)
	}
}

// fitting is a row that fits wide.
func fitting() []api.Value {
	return []api.Value{integer(1), null(), str("a"), null(), boolean(false), null(), integer(-3), boolean(true)}
}

// unfit are rows that do not fit wide, each by what the name tells.
func unfit() map[string][]api.Value {
	changed := func(k int, v api.Value) []api.Value {
		l := fitting()
		l[k] = v
		return l
	}
	return map[string][]api.Value{
		"no row":                      nil,
		"no value":                    {},
		"a value too few":             fitting()[:7],
		"the first value too few":     fitting()[1:],
		"one value":                   fitting()[:1],
		"a value too many":            append(fitting(), integer(1)),
		"a Null too many":             append(fitting(), null()),
		"two rows":                    append(fitting(), fitting()...),
		"Null for an integer":         changed(0, null()),
		"Null for a text":             changed(2, null()),
		"Null for a truth":            changed(4, null()),
		"Null for the second integer": changed(6, null()),
		"Null in the last column":     changed(7, null()),
		"a text for an integer":       changed(0, str("1")),
		"a truth for an integer":      changed(1, boolean(true)),
		"an integer for a text":       changed(2, integer(0)),
		"a truth for a text":          changed(3, boolean(false)),
		"an integer for a truth":      changed(4, integer(1)),
		"a text for a truth":          changed(5, str("")),
		"a text in the second Int":    changed(6, str("")),
		"an integer, last column":     changed(7, integer(0)),
		"a kind below":                changed(0, api.Value{Kind: -1}),
		"a kind above":                changed(1, api.Value{Kind: 4}),
		"a text of 65 bytes":          changed(2, str(letters(65))),
		"a text of 65, or Null":       changed(3, str(letters(65))),
		"Null with an integer":        changed(1, api.Value{I: 1}),
		"Null with a text":            changed(3, api.Value{S: "a"}),
		"Null with a truth":           changed(5, api.Value{B: true}),
		"an integer with a text":      changed(0, api.Value{Kind: api.Int, I: 1, S: "a"}),
		"an integer with a truth":     changed(6, api.Value{Kind: api.Int, I: 1, B: true}),
		"a text with an integer":      changed(2, api.Value{Kind: api.Str, S: "a", I: 1}),
		"a truth with an integer":     changed(4, api.Value{Kind: api.Bool, I: 1}),
	}
}

// TestAddOfRowsThatDoNotFit has them as the first row and behind others, also where there is a row.
func TestAddOfRowsThatDoNotFit(t *testing.T) {
	for name, l := range unfit() {
		t.Run(name, func(t *testing.T) {
			for _, s := range []api.Schema{wide(0, 6, 4), wide(2, 0, 7), wide(7, 6, -1), wide(-1, -1, -1)} {
				p := empty(t, s)
				p.wantAdd(t, added{row: l}, api.ErrArg)
				p.wantAdd(t, added{row: fitting()}, api.OK)
				p.wantAdd(t, added{row: l}, api.ErrArg)
				p.wantAdd(t, added{row: l, at: api.Place{Doc: 1}, offset: 1}, api.ErrArg)
				p.wantAdd(t, added{row: fitting(), at: api.Place{Doc: 1}, offset: 1}, api.OK)
			}
		})
	}
}

// TestAddOfRowsThatFit has each value that a column may have at the ends of its range.
func TestAddOfRowsThatFit(t *testing.T) {
	values := [][]api.Value{
		{integer(math.MinInt), integer(math.MaxInt)}, {null(), integer(math.MinInt)}, {str(""), str(letters(64))}, {null(), str(""), str("\xff\x00")},
		{boolean(false), boolean(true)}, {null(), boolean(false)}, {integer(math.MinInt), integer(0), integer(math.MaxInt)}, {boolean(false), boolean(true)},
	}
	for _, s := range []api.Schema{wide(0, 6, 4), wide(2, 0, 7), wide(4, 6, -1), wide(-1, -1, -1)} {
		p := empty(t, s)
		for k, l := range values {
			for _, v := range l {
				next := fitting()
				next[k] = v
				n := len(p.m.rows)
				p.wantAdd(t, added{next, api.Place{Seg: n % 3, Doc: n}, n}, api.OK)
			}
		}
	}
}

// numbers are some in and beyond the range 0 to greatest.
func numbers(greatest int) []int {
	return []int{math.MinInt, math.MinInt + 1, -greatest - 1, -greatest, -2, -1, 0, 1, 2, greatest - 1, greatest, greatest + 1, greatest + 2, 2*greatest + 1, math.MaxInt - 1, math.MaxInt}
}

func TestAddAtEachPlace(t *testing.T) {
	for _, s := range []api.Schema{keyed(), withoutKey()} {
		// One table takes the rows of all places, and another one the rows of one place each.
		all := empty(t, s)
		for _, seg := range append(numbers(greatestID), 3, 7, greatestDoc+1, 1<<32) {
			for _, doc := range append(numbers(greatestDoc), 63, 64, 65, 1000, 4095, 4096, 1<<32) {
				x := added{row(seg, doc, false), api.Place{Seg: seg, Doc: doc}, 0}
				want := api.OK
				if seg < 0 || seg > greatestID || doc < 0 || doc > greatestDoc {
					want = api.ErrArg
				}
				empty(t, s).wantAdd(t, x, want)
				if e := all.add(t, x); e != want {
					t.Fatalf("Add at %v: error %d", x.at, e)
				}
			}
		}
		all.compare(t)
	}
}

func TestAddAtEachOffset(t *testing.T) {
	for _, s := range []api.Schema{keyed(), withoutDel(), withoutKey()} {
		all := empty(t, s)
		for i, offset := range append(numbers(farthest), 1<<30, 1<<32, 1<<39) {
			x := place(i, 1, 5, offset)
			want := api.OK
			if offset < 0 || offset > farthest {
				want = api.ErrArg
			}
			empty(t, s).wantAdd(t, x, want)
			all.wantAdd(t, x, want)
		}
	}
}

// TestAddOfSeveralFaults combines rows, places and offsets, some of which are wrong, at a place
// where there is a row and at one where there is none.
func TestAddOfSeveralFaults(t *testing.T) {
	rows := [][]api.Value{row(1, 5, false), row(2, 9, true), nil, {integer(1)}, {integer(1), integer(5), null()}, {integer(1), str("5"), boolean(false)}, append(row(1, 5, false), null())}
	counts := map[api.Errno]int{}
	for _, s := range []api.Schema{keyed(), withoutKey()} {
		p := filled(t, s, place(0, 1, 5, 7), place(1, 1, 4, 7).in(3))
		for _, l := range rows {
			for _, seg := range []int{0, 3, 4, -1, greatestID + 1, math.MinInt, math.MaxInt} {
				for _, doc := range []int{0, 1, -1, greatestDoc + 1, math.MinInt, math.MaxInt} {
					for _, offset := range []int{7, -1, farthest + 1, math.MinInt, math.MaxInt} {
						x := added{l, api.Place{Seg: seg, Doc: doc}, offset}
						// A row that may be added is tried on a table of its own.
						q := p.copied(t)
						counts[q.add(t, x)]++
						q.compare(t)
					}
				}
			}
		}
	}
	// Of six good places two are taken; with a key, the first row is equal to its winner.
	if counts[api.OK] != 4+4+4 || counts[api.ErrState] != 6+2+2+2 {
		t.Errorf("%v", counts)
	}
}

// TestAddWhereThereIsARow has rows that would win over it, and others.
func TestAddWhereThereIsARow(t *testing.T) {
	for _, s := range []api.Schema{keyed(), withoutDel(), withoutKey()} {
		// The rows at the Docs 0 and 2 win, the one at Doc 1 does not, and the one at Doc 2 deletes its key.
		p := filled(t, s, place(0, 1, 5, 10), place(1, 1, 4, 11), place(2, 2, 5, 12).deleting(), place(0, 3, 5, 13).in(1), place(greatestDoc, 4, 5, 14).in(greatestID))
		for _, x := range slices.Clone(p.m.rows) {
			for key := range 6 {
				for _, cmp := range []int{math.MinInt, 3, 4, 5, 6, math.MaxInt} {
					for _, offset := range []int{0, 9, 10, 11, 12, 13, 14, 15, farthest} {
						for _, del := range []bool{false, true} {
							p.wantAdd(t, added{row(key, cmp, del), x.at, offset}, api.ErrState)
						}
					}
				}
			}
		}
		// The same Docs of other segments are free.
		p.wantAdd(t, place(1, 7, 5, 20).in(1), api.OK)
		p.wantAdd(t, place(greatestDoc, 8, 5, 21), api.OK)
		p.wantAdd(t, place(0, 9, 5, 22).in(greatestID), api.OK)
		p.wantAdd(t, place(2, 10, 5, 23).in(2), api.OK)
	}
}

// TestAddOfRivals adds a second row of a key, with each relation to the winner.
func TestAddOfRivals(t *testing.T) {
	for _, first := range []api.Place{{Doc: 3}, {Seg: 5, Doc: 3}} {
		for _, second := range []api.Place{{Doc: 0}, {Doc: 4}, {Seg: 5, Doc: 4}, {Seg: 6, Doc: 3}} {
			for _, dels := range [][2]bool{{false, false}, {false, true}, {true, false}, {true, true}} {
				for cmp := -1; cmp <= 1; cmp++ {
					for offset := -1; offset <= 1; offset++ {
						wantRival(t, added{row(1, 5, dels[0]), first, 10}, added{row(1, 5+cmp, dels[1]), second, 10 + offset}, 3*cmp+offset)
					}
				}
			}
		}
	}
}

// wantRival adds x and then y, which wins over x if order is positive, and loses if it is negative.
func wantRival(t *testing.T, x, y added, order int) {
	t.Helper()
	p := filled(t, keyed(), x)
	if order == 0 {
		p.wantAdd(t, y, api.ErrState)
	} else {
		p.wantAdd(t, y, api.OK)
	}
	winner := x
	if order > 0 {
		winner = y
	}
	want := api.Winner{At: winner.at, Cmp: winner.row[1].I, Offset: winner.offset, Gone: winner.row[2].B}
	if w, there := p.t.Find(integer(1)); !there || w != want || p.t.Keys() != 1 {
		t.Fatalf("%v, %t behind %v and %v, not %v", w, there, x, y, want)
	}
	for _, z := range []added{x, y} {
		counts := z.at == winner.at && !winner.row[2].B
		if p.t.Valid(z.at.Seg).Has(z.at.Doc) != counts {
			t.Fatalf("%v counts is not %t behind %v and %v", z, counts, x, y)
		}
	}
}

// TestAddOfEachCmp has each pair of Cmp values, with each pair of offsets.
func TestAddOfEachCmp(t *testing.T) {
	cmps := []int{math.MinInt, math.MinInt + 1, -1 << 32, -2, -1, 0, 1, 2, 1 << 32, 1<<62 - 1, 1 << 62, math.MaxInt - 1, math.MaxInt}
	offsets := []int{0, 1, 2, 1 << 32, farthest - 1, farthest}
	for i, a := range cmps {
		for j, b := range cmps {
			for k, first := range offsets {
				for l, second := range offsets {
					order := len(offsets)*(j-i) + l - k
					p := empty(t, withoutDel())
					p.add(t, place(0, 1, a, first))
					e := p.add(t, place(1, 1, b, second))
					winner, _ := p.t.Find(integer(1))
					if (e == api.ErrState) != (order == 0) || (winner == api.Winner{At: api.Place{Doc: 1}, Cmp: b, Offset: second}) != (order > 0) {
						t.Fatalf("%d at %d, then %d at %d: error %d, %v", a, first, b, second, e, winner)
					}
				}
			}
		}
		p := filled(t, keyed(), place(0, 1, a, 3), place(1, 2, a, 3))
		p.wantAdd(t, place(2, 1, a, 3), api.ErrState)
		p.wantAdd(t, place(2, 1, a, 2), api.OK)
		p.wantAdd(t, place(3, 1, a, 4), api.OK)
	}
}

// TestAddOfEqualRows: only the winner is compared with the new row, and only if they have one key.
func TestAddOfEqualRows(t *testing.T) {
	p := filled(t, keyed(), place(0, 1, 5, 10), place(1, 1, 4, 10))
	p.wantAdd(t, place(2, 1, 4, 10), api.OK)
	p.wantAdd(t, place(3, 1, 4, 10).deleting(), api.OK)
	p.wantAdd(t, place(4, 1, 5, 10), api.ErrState)
	p.wantAdd(t, place(4, 1, 5, 10).deleting(), api.ErrState)
	p.wantAdd(t, place(4, 2, 5, 10), api.OK)
	p.wantAdd(t, place(5, 2, 5, 10).in(1), api.ErrState)
	p.wantAdd(t, place(5, 1, 5, 11).in(1), api.OK)
	// The former winner is now only one of the rows.
	p.wantAdd(t, place(6, 1, 5, 10), api.OK)
	p.wantAdd(t, place(7, 1, 5, 11), api.ErrState)
	p.wantSeal(t, 9, upto(6), api.ErrState)
	p = filled(t, withoutKey(), place(0, 1, 5, 10))
	p.wantAdd(t, place(1, 1, 5, 10), api.OK)
	p.wantAdd(t, place(0, 1, 5, 10).in(1), api.OK)
	p.wantAdd(t, place(0, 1, 5, 10), api.ErrState)
}

// TestAddToDeletedKeys has rows that do and that do not win over one that deletes its key.
func TestAddToDeletedKeys(t *testing.T) {
	p := filled(t, keyed(), place(0, 1, 5, 10), place(1, 2, 5, 11))
	p.wantAdd(t, place(2, 1, 6, 12).deleting(), api.OK)
	if w, there := p.t.Find(integer(1)); !there || !w.Gone || p.t.Keys() != 2 || p.t.Valid(0).Count() != 1 {
		t.Errorf("%v, %t, %d keys", w, there, p.t.Keys())
	}
	p.wantAdd(t, place(3, 1, 5, 13), api.OK)
	p.wantAdd(t, place(4, 1, 6, 11), api.OK)
	p.wantAdd(t, place(5, 1, 6, 12), api.ErrState)
	if p.t.Valid(0).Count() != 1 {
		t.Error("a row counts that does not win over the one that deletes the key")
	}
	p.wantAdd(t, place(5, 1, 6, 13), api.OK)
	if w, there := p.t.Find(integer(1)); !there || w.Gone || p.t.Valid(0).Count() != 2 {
		t.Errorf("%v, %t", w, there)
	}
	p.wantAdd(t, place(6, 1, 7, 0).deleting().in(4), api.OK)
	p.wantAdd(t, place(7, 1, 8, 0).deleting(), api.OK)
	p.wantAdd(t, place(8, 1, 7, 1), api.OK)
	// A row that deletes its key and does not win has no effect.
	p.wantAdd(t, place(9, 2, 5, 10).deleting(), api.OK)
	p.wantAdd(t, place(10, 3, 5, 10).deleting(), api.OK)
	p.wantAdd(t, place(11, 3, 5, 11), api.OK)
	p.wantAdd(t, place(12, 3, 5, 9).deleting(), api.OK)
	if l := slices.Collect(p.t.Valid(0).All()); !slices.Equal(l, []int{1, 11}) {
		t.Errorf("%v", l)
	}
	// Without Del the same values delete nothing.
	q := empty(t, withoutDel())
	for _, x := range p.m.rows {
		q.wantAdd(t, x, api.OK)
	}
}

// nearKeys are different keys of each kind that are much alike.
func nearKeys() map[int][]api.Value {
	texts := []string{"", "\x00", "\x00\x00", " ", "a", "A", "b", "aa", "aA", "Aa", "ab", "ba", "a ", " a", "a\x00", "a\x00b", "1", "01", "\xff", "\xfe", "\u00e4", "a\u0308", "\u00c4"}
	for i := range 64 {
		texts = append(texts, strings.Repeat("x", i)+"y"+strings.Repeat("x", 63-i), letters(i+1))
	}
	keys := map[int][]api.Value{api.Bool: {boolean(false), boolean(true)}}
	for _, s := range texts {
		keys[api.Str] = append(keys[api.Str], str(s))
	}
	for _, n := range []int{math.MinInt, math.MinInt + 1, math.MaxInt, math.MaxInt - 1, -1, -2} {
		keys[api.Int] = append(keys[api.Int], integer(n))
	}
	for i := range 63 {
		keys[api.Int] = append(keys[api.Int], integer(1<<i))
	}
	keys[api.Int] = append(keys[api.Int], integer(0), integer(3), integer(1<<32+1), integer(-1<<32))
	return keys
}

// TestKeysThatAreAlike adds a row of each key, one more that loses, and one that wins.
func TestKeysThatAreAlike(t *testing.T) {
	for kind, keys := range nearKeys() {
		p := empty(t, with(0, 1, 2, three(kind)...))
		for round, cmp := range []int{5, 4, 6} {
			for i, key := range keys {
				x := added{[]api.Value{key, integer(cmp), boolean(cmp == 6 && i%3 == 0)}, api.Place{Seg: round, Doc: i}, 7}
				if e := p.add(t, x); e != api.OK {
					t.Fatalf("Add of %v: error %d", x, e)
				}
			}
			p.compare(t)
			if n := p.t.Keys(); n != len(keys) {
				t.Fatalf("%d keys, not %d", n, len(keys))
			}
		}
	}
}

// TestColumnsOfTwoParts has a Key that is Cmp, and one that is Del.
func TestColumnsOfTwoParts(t *testing.T) {
	p := empty(t, with(0, 0, -1, three(api.Int)...))
	for i, key := range []int{3, 3, 2, 3, 4, -1, 2} {
		p.wantAdd(t, place(i, key, 0, []int{5, 4, 5, 6, 5, 5, 9}[i]), api.OK)
	}
	p.wantAdd(t, place(9, 3, 100, 6), api.ErrState)
	p = empty(t, with(2, 1, 2, three(api.Int)...))
	for i, cmp := range []int{5, 6, 7, 8} {
		p.wantAdd(t, added{row(0, cmp, i%2 == 0), api.Place{Doc: i}, i}, api.OK)
	}
	if l := slices.Collect(p.t.Valid(0).All()); !slices.Equal(l, []int{3}) || p.t.Keys() != 2 {
		t.Errorf("%v, %d keys", l, p.t.Keys())
	}
	// Each column of wide that may be one is Key, Cmp and Del.
	for _, key := range []int{0, 2, 4, 6, 7} {
		for _, cmp := range []int{0, 6} {
			for _, del := range []int{-1, 4, 7} {
				p := empty(t, wide(key, cmp, del))
				draw := random(100*key + 10*cmp + del)
				for i := range 20 {
					l := []api.Value{integer(draw(3)), integer(draw(3)), str(letters(draw(3))), null(), boolean(draw(2) == 0), null(), integer(draw(3)), boolean(draw(2) == 0)}
					p.add(t, added{l, api.Place{Seg: draw(2), Doc: i}, draw(5)})
				}
				p.compare(t)
			}
		}
	}
}

package upsert

import (
	"math"
	"slices"
	"strings"
	"testing"

	"winnower/api"
	"winnower/bitset"
)

const (
	greatestID  = 1 << 30
	greatestDoc = 65535
	farthest    = 1 << 40
)

func null() api.Value          { return api.Value{Kind: api.Null} }
func integer(n int) api.Value  { return api.Value{Kind: api.Int, I: n} }
func str(s string) api.Value   { return api.Value{Kind: api.Str, S: s} }
func boolean(b bool) api.Value { return api.Value{Kind: api.Bool, B: b} }
func letters(count int) string { return strings.Repeat("x", count) }

// with is a schema of these columns with these special ones, without a column to sort by.
func with(key, cmp, del int, cols ...api.Col) api.Schema {
	return api.Schema{Cols: cols, Key: key, Cmp: cmp, Del: del, Sort: -1}
}

// three are the columns of most schemas of the tests: a key of a kind, and what Cmp and Del need.
func three(kind int) []api.Col {
	return []api.Col{{Name: "k", Kind: kind}, {Name: "c", Kind: api.Int}, {Name: "d", Kind: api.Bool}}
}

func keyed() api.Schema      { return with(0, 1, 2, three(api.Int)...) }
func withoutDel() api.Schema { return with(0, 1, -1, three(api.Int)...) }
func withoutKey() api.Schema { return with(-1, -1, -1, three(api.Int)...) }

// wide has eight columns: of every kind, nullable and not, and two more.
func wide(key, cmp, del int) api.Schema {
	return with(key, cmp, del,
		api.Col{Name: "i", Kind: api.Int}, api.Col{Name: "i_null", Kind: api.Int, Null: true},
		api.Col{Name: "s", Kind: api.Str}, api.Col{Name: "s_null", Kind: api.Str, Null: true},
		api.Col{Name: "b", Kind: api.Bool}, api.Col{Name: "b_null", Kind: api.Bool, Null: true},
		api.Col{Name: "i2", Kind: api.Int}, api.Col{Name: "b2", Kind: api.Bool},
	)
}

// added is a row, its place and its offset.
type added struct {
	row    []api.Value
	at     api.Place
	offset int
}

// row is a row of three columns with an integer as its key.
func row(key, cmp int, del bool) []api.Value {
	return []api.Value{integer(key), integer(cmp), boolean(del)}
}

// place is a row of keyed() that deletes nothing, at a place of segment 0.
func place(doc, key, cmp, offset int) added {
	return added{row(key, cmp, false), api.Place{Doc: doc}, offset}
}

// in is x in another segment.
func (x added) in(seg int) added {
	x.at.Seg = seg
	return x
}

// deleting is x with a row that deletes its key.
func (x added) deleting() added {
	x.row = slices.Clone(x.row)
	x.row[2] = boolean(true)
	return x
}

// model is a table as the chapter defines it: a list of rows.
type model struct {
	s    api.Schema
	rows []added
}

// valid tells whether v may be a value of c: it has the kind and no fields of other kinds.
func valid(c api.Col, v api.Value) bool {
	switch v.Kind {
	case api.Null:
		return c.Null && v == null()
	case api.Int:
		return c.Kind == api.Int && v == integer(v.I)
	case api.Str:
		return c.Kind == api.Str && v == str(v.S) && len(v.S) <= 64
	}
	return c.Kind == api.Bool && v == boolean(v.B)
}

func (m *model) fits(row []api.Value) bool {
	if len(row) != len(m.s.Cols) {
		return false
	}
	for k, c := range m.s.Cols {
		if !valid(c, row[k]) {
			return false
		}
	}
	return true
}

// wins tells whether a wins over b, which has the same key.
func (m *model) wins(a, b added) bool {
	x, y := a.row[m.s.Cmp].I, b.row[m.s.Cmp].I
	return x > y || x == y && a.offset > b.offset
}

// winner is the index of the row that wins over all other rows of key, and -1 if there is none.
func (m *model) winner(key api.Value) int {
	if m.s.Key == -1 {
		return -1
	}
	for i, x := range m.rows {
		if x.row[m.s.Key] != key {
			continue
		}
		beaten := false
		for j, y := range m.rows {
			beaten = beaten || j != i && y.row[m.s.Key] == key && !m.wins(x, y)
		}
		if !beaten {
			return i
		}
	}
	return -1
}

func (m *model) deletes(x added) bool {
	return m.s.Del != -1 && x.row[m.s.Del] == boolean(true)
}

func (m *model) find(key api.Value) (api.Winner, bool) {
	i := m.winner(key)
	if i < 0 {
		return api.Winner{}, false
	}
	x := m.rows[i]
	return api.Winner{At: x.at, Cmp: x.row[m.s.Cmp].I, Offset: x.offset, Gone: m.deletes(x)}, true
}

// keys are those of all rows, each once.
func (m *model) keys() []api.Value {
	var l []api.Value
	for _, x := range m.rows {
		if m.s.Key != -1 && !slices.Contains(l, x.row[m.s.Key]) {
			l = append(l, x.row[m.s.Key])
		}
	}
	return l
}

func (m *model) counts(i int) bool {
	x := m.rows[i]
	return m.s.Key == -1 || m.winner(x.row[m.s.Key]) == i && !m.deletes(x)
}

// counting are the Docs of the rows of seg that count, in order.
func (m *model) counting(seg int) []int {
	var l []int
	for i, x := range m.rows {
		if x.at.Seg == seg && m.counts(i) {
			l = append(l, x.at.Doc)
		}
	}
	slices.Sort(l)
	return l
}

// docs are the Docs of all rows of seg, in order.
func (m *model) docs(seg int) []int {
	var l []int
	for _, x := range m.rows {
		if x.at.Seg == seg {
			l = append(l, x.at.Doc)
		}
	}
	slices.Sort(l)
	return l
}

func (m *model) add(x added) api.Errno {
	if !m.fits(x.row) || x.at.Seg < 0 || x.at.Seg > greatestID || x.at.Doc < 0 || x.at.Doc > greatestDoc || x.offset < 0 || x.offset > farthest {
		return api.ErrArg
	}
	for _, y := range m.rows {
		if y.at == x.at {
			return api.ErrState
		}
	}
	if m.s.Key != -1 {
		w, there := m.find(x.row[m.s.Key])
		if there && w.Cmp == x.row[m.s.Cmp].I && w.Offset == x.offset {
			return api.ErrState
		}
	}
	m.rows = append(m.rows, added{slices.Clone(x.row), x.at, x.offset})
	return api.OK
}

func upto(n int) []int {
	l := make([]int, n)
	for i := range l {
		l[i] = i
	}
	return l
}

func (m *model) seal(id int, order []int) api.Errno {
	docs := m.docs(0)
	if id < 1 || id > greatestID || !slices.Equal(slices.Sorted(slices.Values(order)), upto(len(docs))) {
		return api.ErrArg
	}
	if len(m.docs(id)) > 0 || !slices.Equal(docs, upto(len(docs))) {
		return api.ErrState
	}
	for i, x := range m.rows {
		if x.at.Seg == 0 {
			m.rows[i].at = api.Place{Seg: id, Doc: slices.Index(order, x.at.Doc)}
		}
	}
	return api.OK
}

// pair is a table and its model.
type pair struct {
	t *Table
	m *model
}

// empty is a table without rows, and its model.
func empty(t testing.TB, s api.Schema) pair {
	t.Helper()
	table, e := New(s)
	if e != api.OK || table == nil {
		t.Fatalf("New of %v: %v, error %d", s, table, e)
	}
	s.Cols = slices.Clone(s.Cols)
	return pair{table, &model{s: s}}
}

// add adds to both and compares what they return.
func (p pair) add(t testing.TB, x added) api.Errno {
	t.Helper()
	want := p.m.add(x)
	if e := p.t.Add(x.row, x.at, x.offset); e != want {
		t.Fatalf("Add of %v to %v: error %d, not %d", x, p.m.rows, e, want)
	}
	return want
}

// seal seals both and compares what they return.
func (p pair) seal(t testing.TB, id int, order []int) api.Errno {
	t.Helper()
	before := slices.Clone(p.m.rows)
	want := p.m.seal(id, order)
	if e := p.t.Seal(id, order); e != want {
		t.Fatalf("Seal of %v to %d in the order %v: error %d, not %d", before, id, order, e, want)
	}
	return want
}

// strangers are values that are no key of most tables, also such as no row can have.
func strangers() []api.Value {
	return []api.Value{
		{}, {I: 1}, {S: "a"}, {B: true}, {Kind: -1}, {Kind: 4}, {Kind: math.MinInt}, {Kind: math.MaxInt, I: 1},
		{Kind: api.Int, I: 1, S: "a"}, {Kind: api.Int, I: 1, B: true}, {Kind: api.Str, I: 1}, {Kind: api.Str, B: true}, {Kind: api.Bool, I: 1}, {Kind: api.Bool, B: true, S: "a"},
		integer(math.MinInt), integer(-1), integer(0), integer(1), integer(2), integer(1 << 32), integer(math.MaxInt),
		str(""), str("a"), str("A"), str("1"), str("\x00"), str(letters(64)), str(letters(65)), boolean(false), boolean(true),
	}
}

// compare compares all that both tell.
func (p pair) compare(t testing.TB) {
	t.Helper()
	keys := p.m.keys()
	if n := p.t.Keys(); n != len(keys) {
		t.Fatalf("Keys of %v: %d, not %d", p.m.rows, n, len(keys))
	}
	for _, key := range append(keys, strangers()...) {
		p.compareKey(t, key)
	}
	segs := []int{0, 1, 2, 3, greatestDoc, greatestID - 1, greatestID, greatestID + 1, 1 << 32, -1, -2, -greatestID, math.MinInt, math.MinInt + 1, math.MaxInt - 1, math.MaxInt}
	for _, x := range p.m.rows {
		segs = append(segs, x.at.Seg)
	}
	slices.Sort(segs)
	for _, seg := range slices.Compact(segs) {
		p.compareSegment(t, seg)
	}
}

func (p pair) compareKey(t testing.TB, key api.Value) {
	t.Helper()
	want, is := p.m.find(key)
	if w, there := p.t.Find(key); w != want || there != is {
		t.Fatalf("Find of %v in %v: %v, %t, not %v, %t", key, p.m.rows, w, there, want, is)
	}
}

func (p pair) compareSegment(t testing.TB, seg int) {
	t.Helper()
	want := p.m.counting(seg)
	set := p.t.Valid(seg)
	if l := slices.Collect(set.All()); !slices.Equal(l, want) || !bitset.Same(set, bitset.Of(want...)) {
		t.Fatalf("Valid of %d in %v: %v, not %v", seg, p.m.rows, l, want)
	}
}

// wantAdd adds to both, where the error is as told, and compares them.
func (p pair) wantAdd(t testing.TB, x added, want api.Errno) {
	t.Helper()
	if e := p.add(t, x); e != want {
		t.Fatalf("Add of %v to %v: error %d, not %d", x, p.m.rows, e, want)
	}
	p.compare(t)
}

// wantSeal seals both, where the error is as told, and compares them.
func (p pair) wantSeal(t testing.TB, id int, order []int, want api.Errno) {
	t.Helper()
	if e := p.seal(t, id, order); e != want {
		t.Fatalf("Seal to %d in the order %v: error %d, not %d, then %v", id, order, e, want, p.m.rows)
	}
	p.compare(t)
}

// filled is a table to which rows were added.
func filled(t testing.TB, s api.Schema, l ...added) pair {
	t.Helper()
	p := empty(t, s)
	for _, x := range l {
		p.wantAdd(t, x, api.OK)
	}
	return p
}

// copied is another table with the same rows, added in the same order at the places where they are now.
func (p pair) copied(t testing.TB) pair {
	t.Helper()
	other := empty(t, p.m.s)
	for _, x := range p.m.rows {
		if e := other.add(t, x); e != api.OK {
			t.Fatalf("Add of %v, which was added before: error %d", x, e)
		}
	}
	return other
}

// permutations are all orders of the numbers from 0 to n - 1.
func permutations(n int) [][]int {
	if n == 0 {
		return [][]int{{}}
	}
	var all [][]int
	for _, l := range permutations(n - 1) {
		for at := range n {
			all = append(all, slices.Insert(slices.Clone(l), at, n-1))
		}
	}
	return all
}

// random returns numbers from 0 to below a bound, which depend on seed alone.
func random(seed int) func(bound int) int {
	state := uint64(seed)
	return func(bound int) int {
		state = state*6364136223846793005 + 1442695040888963407
		return int((state >> 33) % uint64(bound))
	}
}

func TestLimits(t *testing.T) {
	if api.MaxID != greatestID || api.MaxRows != greatestDoc+1 || api.MaxOffset != farthest || api.MaxStr != 64 || api.MaxCols != 8 {
		t.Error("the tests have other limits than the program")
	}
}

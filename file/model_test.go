package file

import (
	"bytes"
	"encoding/binary"
	"hash/crc32"
	"slices"
	"strings"
	"testing"

	"winnower/api"
	"winnower/column"
	"winnower/frame"
	"winnower/num"
	"winnower/runs"
	"winnower/seal"
	"winnower/value"
)

const farthest = 1 << 40

func null() api.Value          { return api.Value{Kind: api.Null} }
func integer(n int) api.Value  { return api.Value{Kind: api.Int, I: n} }
func str(s string) api.Value   { return api.Value{Kind: api.Str, S: s} }
func boolean(b bool) api.Value { return api.Value{Kind: api.Bool, B: b} }

func integers(l ...int) []api.Value {
	var out []api.Value
	for _, n := range l {
		out = append(out, integer(n))
	}
	return out
}

// from are count numbers, the first of them and the distance between two as told.
func from(first, count, step int) []int {
	var out []int
	for i := range count {
		out = append(out, first+i*step)
	}
	return out
}

// of is a schema of these columns, without a key, sorted by column sort.
func of(sort int, cols ...api.Col) api.Schema {
	return api.Schema{Cols: cols, Key: -1, Cmp: -1, Del: -1, Sort: sort}
}

// one has a single column of the kind, nullable.
func one(sort, kind int) api.Schema {
	return of(sort, api.Col{Name: "v", Kind: kind, Null: true})
}

// mixed has an integer and a string, which may be Null.
func mixed(sort int) api.Schema {
	return of(sort, api.Col{Name: "n", Kind: api.Int}, api.Col{Name: "s", Kind: api.Str, Null: true})
}

// all has every kind of column, nullable and not, and as many columns as a schema may have.
func all(sort int) api.Schema {
	s := of(sort,
		api.Col{Name: "i", Kind: api.Int}, api.Col{Name: "i_null", Kind: api.Int, Null: true},
		api.Col{Name: "s", Kind: api.Str}, api.Col{Name: "s_null", Kind: api.Str, Null: true},
		api.Col{Name: "b", Kind: api.Bool}, api.Col{Name: "b_null", Kind: api.Bool, Null: true},
		api.Col{Name: "i2", Kind: api.Int}, api.Col{Name: "b2", Kind: api.Bool},
	)
	s.Key, s.Cmp, s.Del = 0, 6, 4
	return s
}

// badSchemas are schemas that are not valid. The sample would be a segment of those with two columns otherwise.
func badSchemas() map[string]api.Schema {
	changed := func(key, cmp, del, sort int) api.Schema {
		s := mixed(sort)
		s.Key, s.Cmp, s.Del = key, cmp, del
		return s
	}
	named := func(a, b string) api.Schema {
		s := mixed(0)
		s.Cols[0].Name, s.Cols[1].Name = a, b
		return s
	}
	many, unkind := all(-1), mixed(0)
	many.Cols = append(many.Cols, api.Col{Name: "ninth", Kind: api.Int})
	unkind.Cols[0].Kind = api.Null
	return map[string]api.Schema{
		"the zero schema":         {},
		"no column":               of(-1),
		"no column, but Sort":     of(0),
		"9 columns":               many,
		"a name of no byte":       named("", "s"),
		"a name of 17 bytes":      named("n", strings.Repeat("s", 17)),
		"a capital letter":        named("N", "s"),
		"two columns of one name": named("n", "n"),
		"a column of kind Null":   unkind,
		"Cmp without Key":         changed(-1, 0, -1, 0),
		"Key without Cmp":         changed(0, -1, -1, 0),
		"a Key that may be Null":  changed(1, 0, -1, 0),
		"Del of integers":         changed(0, 0, 0, 0),
		"Sort below":              changed(-1, -1, -1, -2),
		"Sort above":              changed(-1, -1, -1, 2),
	}
}

// segmentOf is a segment without rows.
func segmentOf(part, id, start, end int) api.Segment {
	return api.Segment{Part: part, ID: id, Start: start, End: end}
}

// columnOf is the column of these values.
func columnOf(values ...api.Value) api.Column {
	c, _ := column.Build(values)
	return c
}

// built is the segment with the head of x and these rows.
func built(t testing.TB, s api.Schema, x api.Segment, l [][]api.Value, offsets []int) api.Segment {
	t.Helper()
	out, _, e := seal.Build(s, x, l, offsets)
	if e != api.OK {
		t.Fatalf("Build of %d rows: error %d", len(l), e)
	}
	return out
}

// sample is a valid segment of mixed(0): its rows are 1 Null, 2 "b", 2 "a", 5 "b", at 7, 3, 6, 4.
func sample() api.Segment {
	x := segmentOf(1, 2, 2, 9)
	x.Offsets = []int{7, 3, 6, 4}
	x.Cols = []api.Column{columnOf(integers(1, 2, 2, 5)...), columnOf(null(), str("b"), str("a"), str("b"))}
	return x
}

// random returns numbers from 0 to below a bound, which depend on seed alone.
func random(seed int) func(bound int) int {
	state := uint64(seed)
	return func(bound int) int {
		state = state*6364136223846793005 + 1442695040888963407
		return int((state >> 33) % uint64(bound))
	}
}

// drawnValue is a value that c may have, one of some kinds.
func drawnValue(draw func(int) int, c api.Col, kinds int) api.Value {
	n := draw(kinds)
	switch {
	case c.Null && n == 0:
		return null()
	case c.Kind == api.Int:
		return integer((n - kinds/2) << (n % 40))
	case c.Kind == api.Str:
		return str(strings.Repeat("x", n%65))
	}
	return boolean(n%2 == 0)
}

// drawnSegment is a segment of rows and offsets that seed tells, and its schema.
func drawnSegment(t testing.TB, seed, most int) (api.Schema, api.Segment) {
	t.Helper()
	draw := random(seed)
	s := []api.Schema{mixed(0), all(0), one(0, 1+draw(3))}[seed%3]
	s.Sort = draw(len(s.Cols)+1) - 1
	start := draw(2) * (farthest - 5*most)
	var l [][]api.Value
	var offsets []int
	count, kinds, next := draw(most), 1+draw(80), start
	for range count {
		var row []api.Value
		for _, c := range s.Cols {
			row = append(row, drawnValue(draw, c, kinds))
		}
		next += draw(4)
		l, offsets = append(l, row), append(offsets, next)
		next++
	}
	return s, built(t, s, segmentOf(draw(4), 1+draw(1000), start, next+draw(9)), l, offsets)
}

// framed is the frame of a payload, however long, by the definition.
func framed(payload []byte) []byte {
	out := append(binary.AppendUvarint(nil, uint64(len(payload))), payload...)
	return binary.LittleEndian.AppendUint32(out, crc32.ChecksumIEEE(payload))
}

// file are the frames of these payloads.
func file(payloads ...[]byte) []byte {
	var out []byte
	for _, payload := range payloads {
		out = append(out, framed(payload)...)
	}
	return out
}

// varints are numbers that are not negative, one behind the other.
func varints(l ...int) []byte {
	var out []byte
	for _, n := range l {
		out = binary.AppendUvarint(out, uint64(n))
	}
	return out
}

// modelColumn is what column.Put makes of c, or would make if c were valid.
func modelColumn(c api.Column) []byte {
	out := num.PutLen(num.PutLen(nil, c.N), len(c.Dict))
	for _, v := range c.Dict {
		own, _ := value.Put(nil, v)
		out = append(append(out, byte(v.Kind)), own...)
	}
	return append(out, c.Ids...)
}

// modelPayloads are the payloads of x, be it valid or not.
func modelPayloads(x api.Segment) [][]byte {
	offsets, _ := runs.Encode(x.Offsets)
	out := [][]byte{varints(x.Part, x.ID, x.Start, x.End, len(x.Cols)), offsets}
	for _, c := range x.Cols {
		out = append(out, modelColumn(c))
	}
	return out
}

// modelDecode reads payload by payload, checks that each one is read to its end, and leaves
// no byte out.
func modelDecode(s api.Schema, b []byte) (api.Segment, bool) {
	payloads, position := frame.Read(b)
	if position < len(b) || len(payloads) < 2 {
		return api.Segment{}, false
	}
	var numbers []int
	for rest := payloads[0]; len(rest) > 0; {
		n, digits, e := num.GetLen(rest)
		if e != api.OK {
			return api.Segment{}, false
		}
		numbers, rest = append(numbers, n), rest[digits:]
	}
	if len(numbers) != 5 || numbers[4] != len(payloads)-2 || len(payloads)-2 != len(s.Cols) {
		return api.Segment{}, false
	}
	x := segmentOf(numbers[0], numbers[1], numbers[2], numbers[3])
	offsets, size, e := runs.Decode(payloads[1])
	if e != api.OK || size != len(payloads[1]) {
		return api.Segment{}, false
	}
	x.Offsets = offsets
	for _, payload := range payloads[2:] {
		c, size, e := column.Get(payload)
		if e != api.OK || size != len(payload) {
			return api.Segment{}, false
		}
		x.Cols = append(x.Cols, c)
	}
	return x, seal.May(s, x)
}

func sameColumn(a, b api.Column) bool {
	return a.N == b.N && slices.Equal(a.Dict, b.Dict) && bytes.Equal(a.Ids, b.Ids)
}

func sameSegment(a, b api.Segment) bool {
	return a.Part == b.Part && a.ID == b.ID && a.Start == b.Start && a.End == b.End &&
		slices.Equal(a.Offsets, b.Offsets) && slices.EqualFunc(a.Cols, b.Cols, sameColumn)
}

// isZero reports whether x is the zero value, but for lists that are empty.
func isZero(x api.Segment) bool {
	return sameSegment(x, api.Segment{})
}

// encoded is the file of a segment that is valid.
func encoded(t testing.TB, s api.Schema, x api.Segment) []byte {
	t.Helper()
	b, e := Encode(s, x)
	if e != api.OK {
		t.Fatalf("Encode of %d rows: error %d", len(x.Offsets), e)
	}
	return b
}

// wantEncode checks that the file of x has the model's payloads, and that Decode returns x.
func wantEncode(t testing.TB, s api.Schema, x api.Segment) {
	t.Helper()
	b := encoded(t, s, x)
	if want := file(modelPayloads(x)...); !bytes.Equal(b, want) {
		t.Fatalf("Encode of %d rows: %d bytes, not the %d of the model", len(x.Offsets), len(b), len(want))
	}
	wantDecode(t, s, b, x)
}

// wantEncodeError checks that Encode returns the error and nothing else.
func wantEncodeError(t testing.TB, s api.Schema, x api.Segment, want api.Errno) {
	t.Helper()
	if b, e := Encode(s, x); e != want || len(b) != 0 {
		t.Errorf("Encode of %d rows: %d bytes and error %d, not error %d", len(x.Offsets), len(b), e, want)
	}
}

// wantDecode checks that Decode of b returns x.
func wantDecode(t testing.TB, s api.Schema, b []byte, x api.Segment) {
	t.Helper()
	if got, e := Decode(s, b); e != api.OK || !sameSegment(got, x) {
		t.Fatalf("Decode of %d bytes: error %d, %#v, not %#v", len(b), e, got, x)
	}
}

// wantDecodeError checks that Decode returns the error and nothing else.
func wantDecodeError(t testing.TB, s api.Schema, b []byte, want api.Errno) {
	t.Helper()
	if x, e := Decode(s, b); e != want || !isZero(x) {
		t.Errorf("Decode of %d bytes: %#v and error %d, not error %d", len(b), x, e, want)
	}
}

// wantModel checks that Decode of b returns what the model does, and tells whether this is a segment.
func wantModel(t testing.TB, s api.Schema, b []byte) bool {
	t.Helper()
	x, ok := modelDecode(s, b)
	if !ok {
		wantDecodeError(t, s, b, api.ErrForm)
		return false
	}
	wantDecode(t, s, b, x)
	if again := encoded(t, s, x); !bytes.Equal(again, b) {
		t.Fatalf("%v is decoded, and encoded as %v", b, again)
	}
	return true
}

package file

import (
	"bytes"
	"fmt"
	"math"
	"slices"
	"testing"

	"winnower/api"
	"winnower/column"
	"winnower/frame"
	"winnower/seal"
)

// TestFilesByHand has the bytes of whole files written out.
func TestFilesByHand(t *testing.T) {
	example := segmentOf(1, 20, 10, 13)
	example.Offsets = []int{11, 10, 12}
	example.Cols = []api.Column{{N: 3, Dict: integers(3, 7), Ids: []byte{6}}}
	far := segmentOf(3, 1<<30, farthest-1, farthest)
	far.Offsets = []int{farthest - 1}
	far.Cols = []api.Column{{N: 1, Dict: integers(-1)}, {N: 1, Dict: []api.Value{str("ab")}}}
	for _, c := range []struct {
		s api.Schema
		x api.Segment
		b []byte
	}{
		{one(0, api.Int), example, []byte{
			5, 1, 20, 10, 13, 1, 104, 213, 7, 235,
			5, 0, 3, 22, 20, 24, 50, 200, 254, 241,
			7, 3, 2, 1, 6, 1, 14, 6, 8, 240, 101, 143,
		}},
		{one(-1, api.Bool), api.Segment{ID: 1, Cols: []api.Column{{}}}, []byte{
			5, 0, 1, 0, 0, 1, 238, 160, 153, 9,
			2, 0, 0, 255, 18, 217, 65,
			2, 0, 0, 255, 18, 217, 65,
		}},
		{mixed(1), far, []byte{
			19, 3, 128, 128, 128, 128, 4, 255, 255, 255, 255, 255, 31, 128, 128, 128, 128, 128, 32, 2, 199, 192, 150, 42,
			8, 0, 1, 254, 255, 255, 255, 255, 63, 107, 137, 118, 99,
			4, 1, 1, 1, 1, 153, 211, 38, 246,
			6, 1, 1, 2, 2, 97, 98, 193, 29, 41, 49,
		}},
	} {
		if b, e := Encode(c.s, c.x); e != api.OK || !bytes.Equal(b, c.b) {
			t.Errorf("Encode of %#v: %v, error %d, not %v", c.x, b, e, c.b)
		}
		wantDecode(t, c.s, c.b, c.x)
	}
}

// example is a segment, and a schema for which it is valid.
type example struct {
	s api.Schema
	x api.Segment
}

// goodHeads are heads that are valid, many of them just so.
func goodHeads() []api.Segment {
	return []api.Segment{
		segmentOf(0, 1, 0, 10), segmentOf(3, 1, 0, 10), segmentOf(1, 2, 3, 4), segmentOf(0, 1<<30, 0, 10), segmentOf(2, 127, 127, 128),
		segmentOf(2, 128, 128, 16384), segmentOf(2, 7, 0, 0), segmentOf(2, 7, 5, 5), segmentOf(0, 1, 0, farthest),
		segmentOf(0, 1, farthest, farthest), segmentOf(3, 1<<30, farthest-1, farthest),
	}
}

// examples are segments of many sizes and kinds.
func examples(t testing.TB) map[string]example {
	out := map[string]example{"the sample": {mixed(0), sample()}}
	add := func(name string, s api.Schema, x api.Segment, l [][]api.Value, offsets []int) {
		out[name] = example{s, built(t, s, x, l, offsets)}
	}
	repeated := func(count int, row ...api.Value) [][]api.Value {
		return slices.Repeat([][]api.Value{row}, count)
	}
	wide := segmentOf(1, 2, 0, farthest)
	for i, x := range goodHeads() {
		add(fmt.Sprint("no rows, head ", i), mixed(1), x, nil, nil)
		if x.Start < x.End {
			add(fmt.Sprint("one row, head ", i), mixed(1), x, repeated(1, integer(5), null()), []int{x.Start})
			add(fmt.Sprint("one row at last, head ", i), mixed(0), x, repeated(1, integer(5), str("")), []int{x.End - 1})
		}
	}
	for kind, v := range []api.Value{null(), integer(math.MinInt), str("\x00\xff"), boolean(true)} {
		s := one(kind%2-1, max(kind, api.Int))
		add(fmt.Sprint("no rows, one column, kind ", kind), s, wide, nil, nil)
		add(fmt.Sprint("one row, one column, kind ", kind), s, wide, repeated(1, v), []int{5})
		add(fmt.Sprint("4096 rows with one value, kind ", kind), s, wide, repeated(4096, v), from(0, 4096, 1))
		add(fmt.Sprint("4096 rows with a Null, kind ", kind), s, wide, append(repeated(4095, v), []api.Value{null()}), from(0, 4096, 1))
	}
	var numbered, filled [][]api.Value
	for i := range 4096 {
		numbered = append(numbered, integers(i*7919%4096))
		v := str(fmt.Sprint(i % 50))
		filled = append(filled, []api.Value{integer(-i), null(), v, v, boolean(i%2 == 0), boolean(i%3 == 0), integer(i % 10), boolean(true)})
	}
	for sort := -1; sort < 8; sort++ {
		add(fmt.Sprint("no rows, 8 columns, sorted by ", sort), all(sort), wide, nil, nil)
		add(fmt.Sprint("4096 rows, 8 columns, sorted by ", sort), all(sort), wide, filled, from(farthest-4096, 4096, 1))
		add(fmt.Sprint("a few rows, 8 columns, sorted by ", sort), all(sort), wide, filled[:50], from(0, 50, 1<<30))
	}
	for sort := -1; sort < 1; sort++ {
		add(fmt.Sprint("4096 values, sorted by ", sort), one(sort, api.Int), wide, numbered, from(7, 4096, 3))
		add(fmt.Sprint("4096 values far away, sorted by ", sort), one(sort, api.Int), wide, numbered, from(farthest-4096, 4096, 1))
		add(fmt.Sprint("4096 values far apart, sorted by ", sort), one(sort, api.Int), wide, numbered, from(3, 4096, 1<<28))
	}
	return out
}

func TestEncode(t *testing.T) {
	kinds := map[byte]int{}
	for name, c := range examples(t) {
		t.Run(name, func(t *testing.T) {
			wantEncode(t, c.s, c.x)
			kinds[modelPayloads(c.x)[1][0]]++
		})
	}
	if kinds[0] == 0 || kinds[2] == 0 {
		t.Errorf("kinds of the blocks of offsets: %v", kinds)
	}
}

// TestPayloads reads the frames of files one by one.
func TestPayloads(t *testing.T) {
	for name, c := range examples(t) {
		t.Run(name, func(t *testing.T) {
			b := encoded(t, c.s, c.x)
			payloads, position := frame.Read(b)
			if position != len(b) || len(payloads) != 2+len(c.x.Cols) {
				t.Fatalf("%d payloads of %d columns, to %d of %d bytes", len(payloads), len(c.x.Cols), position, len(b))
			}
			want := [][]byte{varints(c.x.Part, c.x.ID, c.x.Start, c.x.End, len(c.x.Cols)), modelPayloads(c.x)[1]}
			for _, col := range c.x.Cols {
				payload, _ := column.Put(col)
				want = append(want, payload)
			}
			if !slices.EqualFunc(payloads, want, bytes.Equal) {
				t.Errorf("payloads %v, not %v", payloads, want)
			}
		})
	}
}

func TestEncodeOfInvalidSchemas(t *testing.T) {
	for name, s := range badSchemas() {
		t.Run(name, func(t *testing.T) {
			wantEncodeError(t, s, sample(), api.ErrArg)
			wantEncodeError(t, s, api.Segment{}, api.ErrArg)
			x := segmentOf(0, 1, 0, 10)
			x.Cols = make([]api.Column, len(s.Cols))
			wantEncodeError(t, s, x, api.ErrArg)
		})
	}
}

// badHeads are heads that are not valid, each by one thing.
func badHeads() map[string]api.Segment {
	return map[string]api.Segment{
		"a Part below":        segmentOf(-1, 2, 2, 9),
		"a Part far below":    segmentOf(math.MinInt, 2, 2, 9),
		"a Part above":        segmentOf(4, 2, 2, 9),
		"a Part far above":    segmentOf(math.MaxInt, 2, 2, 9),
		"an ID of 0":          segmentOf(1, 0, 2, 9),
		"an ID below":         segmentOf(1, -1, 2, 9),
		"an ID above":         segmentOf(1, 1<<30+1, 2, 9),
		"an ID far above":     segmentOf(1, math.MaxInt, 2, 9),
		"a Start below":       segmentOf(1, 2, -1, 9),
		"a Start far below":   segmentOf(1, 2, math.MinInt, 9),
		"an End before Start": segmentOf(1, 2, 9, 8),
		"an End below":        segmentOf(1, 2, 0, -1),
		"an End above":        segmentOf(1, 2, 2, farthest+1),
		"an End far above":    segmentOf(1, 2, 2, math.MaxInt),
	}
}

// broken are segments that are not valid for mixed(0), each of which differs from the sample by one thing.
func broken() map[string]api.Segment {
	out := map[string]api.Segment{}
	add := func(name string, change func(x *api.Segment)) {
		x := sample()
		change(&x)
		out[name] = x
	}
	offsets := func(name string, l ...int) { add(name, func(x *api.Segment) { x.Offsets = l }) }
	replaced := func(name string, k int, c api.Column) { add(name, func(x *api.Segment) { x.Cols[k] = c }) }
	for name, bad := range badHeads() {
		add(name, func(x *api.Segment) { x.Part, x.ID, x.Start, x.End = bad.Part, bad.ID, bad.Start, bad.End })
	}
	add("a Start above an offset", func(x *api.Segment) { x.Start = 4 })
	add("an End of an offset", func(x *api.Segment) { x.End = 7 })
	offsets("no offset")
	offsets("an offset fewer", 7, 3, 6)
	offsets("an offset more", 7, 3, 6, 4, 8)
	offsets("an offset twice", 7, 3, 6, 7)
	offsets("an offset below Start", 1, 3, 6, 4)
	offsets("a negative offset", -7, 3, 6, 4)
	offsets("an offset of End", 9, 3, 6, 4)
	offsets("an offset far away", math.MaxInt, 3, 6, 4)
	offsets("equal values with falling offsets", 7, 6, 3, 4)
	offsets("4097 offsets", from(2, 4097, 1)...)
	add("no column", func(x *api.Segment) { x.Cols = nil })
	add("a column fewer", func(x *api.Segment) { x.Cols = x.Cols[:1] })
	add("a column more", func(x *api.Segment) { x.Cols = append(x.Cols, x.Cols[1]) })
	add("an empty column more", func(x *api.Segment) { x.Cols = append(x.Cols, api.Column{}) })
	add("columns that change places", func(x *api.Segment) { slices.Reverse(x.Cols) })
	replaced("a column without rows", 0, api.Column{})
	replaced("a column of a row fewer", 0, columnOf(integers(1, 2, 2)...))
	replaced("a column of a row more, last", 1, columnOf(null(), str("b"), str("a"), str("b"), str("b")))
	replaced("N below", 0, api.Column{N: -4, Dict: integers(1, 2, 5), Ids: []byte{0x94}})
	replaced("a Dict that falls", 0, api.Column{N: 4, Dict: integers(1, 5, 2), Ids: []byte{0x94}})
	replaced("a Dict with a value more", 0, api.Column{N: 4, Dict: integers(1, 2, 5, 6), Ids: []byte{0x94}})
	replaced("a value that is not valid", 0, api.Column{N: 4, Dict: []api.Value{integer(1), {Kind: api.Int, I: 2, S: "a"}, integer(5)}, Ids: []byte{0x94}})
	replaced("an id without a value", 0, api.Column{N: 4, Dict: integers(1, 2, 5), Ids: []byte{0xD4}})
	replaced("a byte of Ids more", 0, api.Column{N: 4, Dict: integers(1, 2, 5), Ids: []byte{0x94, 0}})
	replaced("no Ids", 0, api.Column{N: 4, Dict: integers(1, 2, 5)})
	replaced("Null where there may be none", 0, columnOf(null(), integer(2), integer(2), integer(5)))
	replaced("a value of another kind", 1, columnOf(null(), str("b"), integer(1), str("b")))
	replaced("a value after the next", 0, columnOf(integers(3, 2, 2, 5)...))
	replaced("values that fall", 0, columnOf(integers(5, 2, 2, 1)...))
	return out
}

func TestEncodeOfBrokenSegments(t *testing.T) {
	wantEncode(t, mixed(0), sample())
	for name, x := range broken() {
		t.Run(name, func(t *testing.T) {
			if seal.May(mixed(0), x) {
				t.Fatal("the segment is valid")
			}
			wantEncodeError(t, mixed(0), x, api.ErrArg)
		})
	}
	wantEncodeError(t, mixed(0), api.Segment{}, api.ErrArg)
	wantEncodeError(t, mixed(1), sample(), api.ErrArg)
	wantEncodeError(t, mixed(-1), sample(), api.ErrArg)
	wantEncodeError(t, one(0, api.Int), sample(), api.ErrArg)
	wantEncodeError(t, all(0), sample(), api.ErrArg)
}

// strung are 1000 rising strings whose column has a payload of size bytes, which is about 65536.
func strung(t testing.TB, size int) []api.Value {
	t.Helper()
	l := make([]api.Value, 1000)
	// Beside the letters there are two counts of two bytes, 10 bits for each row, and two bytes for each value.
	letters := size - 4 - 10*1000/8 - 2*1000
	for i := range l {
		long := letters / (1000 - i)
		l[i] = str(fmt.Sprintf("%04d", i) + string(bytes.Repeat([]byte{'x'}, long-4)))
		letters -= long
	}
	payload, e := column.Put(columnOf(l...))
	if e != api.OK || len(payload) != size {
		t.Fatalf("a payload of %d bytes, not %d", len(payload), size)
	}
	return l
}

// long is a schema of count columns of strings, and a segment whose column k has a payload of size bytes.
func long(t testing.TB, count, k, size int) example {
	t.Helper()
	s := of(k)
	x := segmentOf(0, 1, 0, 2000)
	x.Offsets = from(5, 1000, 1)
	for i := range count {
		s.Cols = append(s.Cols, api.Col{Name: "c" + string(rune('0'+i)), Kind: api.Str, Null: i%2 == 1})
		x.Cols = append(x.Cols, columnOf(slices.Repeat([]api.Value{str("a")}, 1000)...))
	}
	x.Cols[k] = columnOf(strung(t, size)...)
	return example{s, x}
}

func TestEncodeOfLongPayloads(t *testing.T) {
	for _, c := range [][2]int{{1, 0}, {2, 0}, {2, 1}, {8, 0}, {8, 4}, {8, 7}} {
		for _, size := range []int{65535, 65536} {
			y := long(t, c[0], c[1], size)
			wantEncode(t, y.s, y.x)
		}
		for _, size := range []int{65537, 65538, 66000} {
			y := long(t, c[0], c[1], size)
			wantEncodeError(t, y.s, y.x, api.ErrLong)
		}
	}
	// The last columns are short again, or just not too long.
	y := long(t, 8, 2, 65537)
	y.x.Cols[5] = columnOf(strung(t, 65536)...)
	wantEncodeError(t, y.s, y.x, api.ErrLong)
	y.x.Cols[2] = columnOf(strung(t, 65536)...)
	wantEncode(t, y.s, y.x)
	for k := range y.x.Cols {
		y.x.Cols[k] = columnOf(strung(t, 65536)...)
	}
	wantEncode(t, y.s, y.x)
	for k := range y.x.Cols {
		y.x.Cols[k] = columnOf(strung(t, 65537)...)
	}
	wantEncodeError(t, y.s, y.x, api.ErrLong)
}

// TestEncodeOfTheLongestColumns has as many and as long values as a column may have.
func TestEncodeOfTheLongestColumns(t *testing.T) {
	var texts, numbers [][]api.Value
	for i := range 4096 {
		texts = append(texts, []api.Value{str(fmt.Sprintf("%064d", i))})
		numbers = append(numbers, integers(math.MaxInt-i))
	}
	x := segmentOf(3, 1<<30, 0, farthest)
	for sort := -1; sort < 1; sort++ {
		for _, offsets := range [][]int{from(0, 4096, 1), from(farthest-4096, 4096, 1), from(1<<36, 4096, 1<<27)} {
			wantEncodeError(t, one(sort, api.Str), built(t, one(sort, api.Str), x, texts, offsets), api.ErrLong)
			wantEncode(t, one(sort, api.Int), built(t, one(sort, api.Int), x, numbers, offsets))
		}
		wantEncode(t, one(sort, api.Str), built(t, one(sort, api.Str), x, texts[:900], from(0, 900, 1)))
		wantEncodeError(t, one(sort, api.Str), built(t, one(sort, api.Str), x, texts[:1100], from(0, 1100, 1)), api.ErrLong)
	}
}

// TestEncodeWithBothErrors has a payload that is too long, and something that is not valid.
func TestEncodeWithBothErrors(t *testing.T) {
	for k := range 2 {
		y := long(t, 2, k, 65537)
		wantEncodeError(t, y.s, y.x, api.ErrLong)
		for name, head := range badHeads() {
			t.Run(name, func(t *testing.T) {
				x := y.x
				x.Part, x.ID, x.Start, x.End = head.Part, head.ID, head.Start, head.End
				wantEncodeError(t, y.s, x, api.ErrArg)
			})
		}
		for name, s := range badSchemas() {
			t.Run(name, func(t *testing.T) { wantEncodeError(t, s, y.x, api.ErrArg) })
		}
		for name, change := range map[string]func(s *api.Schema, x *api.Segment){
			"no offset":             func(_ *api.Schema, x *api.Segment) { x.Offsets = nil },
			"an offset fewer":       func(_ *api.Schema, x *api.Segment) { x.Offsets = from(5, 999, 1) },
			"an offset twice":       func(_ *api.Schema, x *api.Segment) { x.Offsets = append(from(5, 999, 1), 5) },
			"an offset of End":      func(_ *api.Schema, x *api.Segment) { x.End = 1004 },
			"a column fewer":        func(_ *api.Schema, x *api.Segment) { x.Cols = x.Cols[k : k+1] },
			"a column more":         func(_ *api.Schema, x *api.Segment) { x.Cols = append(slices.Clone(x.Cols), x.Cols[0]) },
			"a column without rows": func(_ *api.Schema, x *api.Segment) { x.Cols = slices.Clone(x.Cols); x.Cols[1-k] = api.Column{} },
			"a Key without Cmp":     func(s *api.Schema, _ *api.Segment) { s.Key = 0 },
			"columns of another kind": func(s *api.Schema, _ *api.Segment) {
				s.Cols = slices.Clone(s.Cols)
				s.Cols[k].Kind = api.Int
			},
			"rows that fall": func(_ *api.Schema, x *api.Segment) {
				x.Cols = slices.Clone(x.Cols)
				l := strung(t, 65537)
				slices.Reverse(l)
				x.Cols[k] = columnOf(l...)
			},
			"Ids that are too many": func(_ *api.Schema, x *api.Segment) {
				x.Cols = slices.Clone(x.Cols)
				x.Cols[k].Ids = append(bytes.Clone(x.Cols[k].Ids), 0)
			},
		} {
			t.Run(name, func(t *testing.T) {
				s, x := y.s, y.x
				change(&s, &x)
				wantEncodeError(t, s, x, api.ErrArg)
			})
		}
	}
}

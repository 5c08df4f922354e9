package schema

import (
	"bytes"
	"errors"
	"math"
	"slices"
	"testing"

	"winnower/api"
	"winnower/num"
	"winnower/value"
)

// full is so many digits that are not the last one, and then the bytes of end.
func full(n int, digit byte, end ...byte) []byte {
	return append(bytes.Repeat([]byte{digit}, n), end...)
}

// records are schemas, rows that fit them, and their encodings.
func records() []struct {
	s   api.Schema
	row []api.Value
	b   []byte
} {
	integers := func(nullable bool) api.Schema { return bare(api.Col{Name: "a", Kind: api.Int, Null: nullable}) }
	texts := func(nullable bool) api.Schema { return bare(api.Col{Name: "a", Kind: api.Str, Null: nullable}) }
	truths := func(nullable bool) api.Schema { return bare(api.Col{Name: "a", Kind: api.Bool, Null: nullable}) }
	return []struct {
		s   api.Schema
		row []api.Value
		b   []byte
	}{
		{example(), []api.Value{integer(5), str("a")}, []byte{10, 1, 1, 97}},
		{example(), []api.Value{integer(5), null()}, []byte{10, 0}},
		{example(), []api.Value{integer(0), str("")}, []byte{0, 1, 0}},
		{example(), []api.Value{integer(-65), null()}, []byte{129, 1, 0}},
		{integers(false), []api.Value{integer(0)}, []byte{0}},
		{integers(false), []api.Value{integer(math.MinInt)}, full(9, 255, 1)},
		{integers(true), []api.Value{integer(0)}, []byte{1, 0}},
		{integers(true), []api.Value{integer(-1)}, []byte{1, 1}},
		{integers(true), []api.Value{integer(64)}, []byte{1, 128, 1}},
		{integers(true), []api.Value{null()}, []byte{0}},
		{texts(false), []api.Value{str("")}, []byte{0}},
		{texts(false), []api.Value{str("\x00\xff")}, []byte{2, 0, 255}},
		{texts(false), []api.Value{str(letters(64))}, append([]byte{64}, letters(64)...)},
		{texts(true), []api.Value{str("")}, []byte{1, 0}},
		{texts(true), []api.Value{str("\x00")}, []byte{1, 1, 0}},
		{texts(true), []api.Value{null()}, []byte{0}},
		{truths(false), []api.Value{boolean(false)}, []byte{0}},
		{truths(false), []api.Value{boolean(true)}, []byte{1}},
		{truths(true), []api.Value{boolean(false)}, []byte{1, 0}},
		{truths(true), []api.Value{boolean(true)}, []byte{1, 1}},
		{truths(true), []api.Value{null()}, []byte{0}},
		{
			all(),
			[]api.Value{integer(1), integer(2), str("a"), str("b"), boolean(true), boolean(false), integer(-3), boolean(true)},
			[]byte{2, 1, 4, 1, 97, 1, 1, 98, 1, 1, 0, 5, 1},
		},
		{
			keyed(all(), 0, 6, 4, 3),
			[]api.Value{integer(1), null(), str("a"), null(), boolean(false), null(), integer(-3), boolean(false)},
			[]byte{2, 0, 1, 97, 0, 0, 0, 5, 0},
		},
	}
}

func TestEncode(t *testing.T) {
	for _, c := range records() {
		if b, e := Encode(c.s, c.row); e != api.OK || !bytes.Equal(b, c.b) {
			t.Errorf("Encode of %#v: %v, %d, not %v", c.row, b, e, c.b)
		}
	}
}

func TestDecode(t *testing.T) {
	for _, c := range records() {
		if got, e := Decode(c.s, c.b); e != api.OK || !slices.Equal(got, c.row) {
			t.Errorf("Decode of %v: %#v, %d, not %#v", c.b, got, e, c.row)
		}
	}
}

func TestEncodeFollowsTheDefinition(t *testing.T) {
	for turn := range 256 {
		for _, s := range []api.Schema{example(), all(), keyed(all(), 0, 6, 4, 3), many(1), many(2), many(8)} {
			values := row(s, turn)
			var want []byte
			for i, c := range s.Cols {
				own, _ := value.Put(nil, values[i])
				switch {
				case !c.Null:
					want = append(want, own...)
				case values[i].Kind == api.Null:
					want = append(want, 0)
				default:
					want = append(append(want, 1), own...)
				}
			}
			if b, e := Encode(s, values); e != api.OK || !bytes.Equal(b, want) {
				t.Errorf("Encode of %#v: %v, %d, not %v", values, b, e, want)
			}
			if got, e := Decode(s, want); e != api.OK || !slices.Equal(got, values) {
				t.Errorf("Decode of %v: %#v, %d, not %#v", want, got, e, values)
			}
		}
	}
}

// refuses checks that Encode returns ErrArg and nothing else.
func refuses(t *testing.T, s api.Schema, values []api.Value) {
	t.Helper()
	if b, e := Encode(s, values); e != api.ErrArg || len(b) != 0 {
		t.Errorf("Encode of %#v in %#v: %v, %d", values, s, b, e)
	}
}

func TestEncodeOfRowsThatDoNotFit(t *testing.T) {
	fits := row(all(), 0)
	for count := range fits {
		refuses(t, all(), fits[:count])
	}
	refuses(t, all(), append(slices.Clone(fits), null()))
	refuses(t, all(), append(slices.Clone(fits), integer(0)))
	refuses(t, all(), append(slices.Clone(fits), fits...))
	others := append(badValues(), null(), integer(1), str("a"), boolean(true))
	for i, c := range all().Cols {
		for _, v := range others {
			values := slices.Clone(fits)
			values[i] = v
			if value.May(v) && (v.Kind == c.Kind || v.Kind == api.Null && c.Null) {
				continue
			}
			refuses(t, all(), values)
		}
	}
}

func TestEncodeAndDecodeByInvalidSchemas(t *testing.T) {
	for name, s := range badSchemas() {
		var values []api.Value
		var b []byte
		for _, c := range s.Cols {
			if c.Null {
				b = append(b, 1)
			}
			values, b = append(values, api.Value{Kind: c.Kind}), append(b, 0)
		}
		refuses(t, s, values)
		refuses(t, s, nil)
		for _, bad := range [][]byte{b, nil, {}, {0}, {2}, {128}, {128, 0}, {65}, full(9, 255, 2)} {
			if got, e := Decode(s, bad); e != api.ErrArg || len(got) != 0 {
				t.Errorf("%s: Decode of %v: %#v, %d", name, bad, got, e)
			}
		}
	}
}

// fails checks that Decode returns the error and nothing else.
func fails(t *testing.T, s api.Schema, b []byte, want api.Errno) {
	t.Helper()
	if got, e := Decode(s, b); e != want || len(got) != 0 {
		t.Errorf("Decode of %v: %#v, %d, not %d", b, got, e, want)
	}
}

// one is a schema of one column.
func one(kind int, nullable bool) api.Schema {
	return bare(api.Col{Name: "a", Kind: kind, Null: nullable})
}

func TestDecodeReturnsTheErrorsOfValues(t *testing.T) {
	for _, c := range []struct {
		kind int
		b    []byte
		e    api.Errno
	}{
		{api.Int, nil, api.ErrShort}, {api.Int, []byte{128}, api.ErrShort}, {api.Int, full(9, 255), api.ErrShort},
		{api.Int, []byte{128, 0}, api.ErrForm}, {api.Int, full(9, 255, 2), api.ErrForm}, {api.Int, full(9, 255, 0), api.ErrForm},
		{api.Str, nil, api.ErrShort}, {api.Str, []byte{1}, api.ErrShort}, {api.Str, []byte{2, 97}, api.ErrShort}, {api.Str, []byte{128}, api.ErrShort},
		{api.Str, append([]byte{64}, letters(63)...), api.ErrShort},
		{api.Str, []byte{129, 0, 97}, api.ErrForm}, {api.Str, full(9, 255, 1), api.ErrForm},
		{api.Str, []byte{65}, api.ErrLong}, {api.Str, append([]byte{65}, letters(65)...), api.ErrLong}, {api.Str, append([]byte{65}, letters(100)...), api.ErrLong},
		{api.Str, num.PutLen(nil, math.MaxInt), api.ErrLong}, {api.Str, num.PutLen(nil, 1<<32), api.ErrLong},
		{api.Bool, nil, api.ErrShort}, {api.Bool, []byte{2}, api.ErrForm}, {api.Bool, []byte{255, 0}, api.ErrForm},
	} {
		fails(t, one(c.kind, false), c.b, c.e)
		fails(t, one(c.kind, true), slices.Concat([]byte{1}, c.b), c.e)
	}
}

func TestDecodeOfNothing(t *testing.T) {
	for _, kind := range []int{api.Int, api.Str, api.Bool} {
		for _, b := range [][]byte{nil, {}} {
			fails(t, one(kind, false), b, api.ErrShort)
			fails(t, one(kind, true), b, api.ErrShort)
		}
	}
	fails(t, all(), nil, api.ErrShort)
}

func TestDecodeTakesOneOfTwoBytesOfNullableColumns(t *testing.T) {
	for _, kind := range []int{api.Int, api.Str, api.Bool} {
		for mark := 2; mark < 256; mark++ {
			for _, after := range [][]byte{nil, {0}, {1}, {128}, {128, 0}, {65}, {2, 97, 98}} {
				fails(t, one(kind, true), slices.Concat([]byte{byte(mark)}, after), api.ErrForm)
				fails(t, bare(api.Col{Name: "a", Kind: api.Bool}, api.Col{Name: "b", Kind: kind, Null: true}), slices.Concat([]byte{1, byte(mark)}, after), api.ErrForm)
			}
		}
	}
}

func TestDecodeRefusesBytesBehindTheLastColumn(t *testing.T) {
	for _, c := range records() {
		for _, more := range [][]byte{{0}, {1}, {2}, {255}, {128}, {10, 0}, c.b, bytes.Repeat([]byte{0}, 100)} {
			fails(t, c.s, slices.Concat(c.b, more), api.ErrForm)
		}
	}
}

// Every column has a byte at least, so that what ends early ends too soon, wherever it does.
func TestDecodeOfEveryPrefix(t *testing.T) {
	for turn := range 256 {
		for _, s := range []api.Schema{example(), all(), many(8)} {
			b, _ := Encode(s, row(s, turn))
			for cut := range b {
				fails(t, s, b[:cut], api.ErrShort)
			}
			fails(t, s, append(b, 0), api.ErrForm)
		}
	}
}

// The first of three columns that is wrong tells the error, whatever is wrong behind it.
func TestDecodeReturnsTheFirstError(t *testing.T) {
	s := bare(api.Col{Name: "a", Kind: api.Str}, api.Col{Name: "b", Kind: api.Int, Null: true}, api.Col{Name: "c", Kind: api.Bool})
	for _, c := range []struct {
		name string
		b    []byte
		e    api.Errno
	}{
		{"nothing is wrong", []byte{1, 97, 1, 4, 1}, api.OK},
		{"too long, then 2", []byte{65, 2, 2, 2}, api.ErrLong},
		{"a length with a needless digit, then the end", []byte{129, 0}, api.ErrForm},
		{"a string that takes what is behind it", []byte{3, 2, 2}, api.ErrShort},
		{"the end ahead of the byte", []byte{1, 97}, api.ErrShort},
		{"2, then the end", []byte{1, 97, 2}, api.ErrForm},
		{"2, then a number that ends", []byte{1, 97, 2, 128}, api.ErrForm},
		{"2, then bytes that are left", []byte{1, 97, 2, 4, 1, 9, 9}, api.ErrForm},
		{"the end behind the byte", []byte{1, 97, 1}, api.ErrShort},
		{"a number that ends", []byte{1, 97, 1, 128}, api.ErrShort},
		{"a number with a needless digit, then the end", []byte{1, 97, 1, 128, 0}, api.ErrForm},
		{"Null, then the end", []byte{1, 97, 0}, api.ErrShort},
		{"Null, then a truth of 2", []byte{1, 97, 0, 2}, api.ErrForm},
		{"the end ahead of the last column", []byte{1, 97, 1, 4}, api.ErrShort},
		{"a truth of 2, then bytes that are left", []byte{1, 97, 1, 4, 2, 9}, api.ErrForm},
		{"bytes that are left", []byte{1, 97, 1, 4, 1, 9}, api.ErrForm},
		{"bytes that are left behind Null", []byte{1, 97, 0, 1, 0}, api.ErrForm},
	} {
		if _, e := Decode(s, c.b); e != c.e {
			t.Errorf("%s: Decode of %v: %d, not %d", c.name, c.b, e, c.e)
		}
	}
}

// model reads column by column as the chapter tells it.
func model(s api.Schema, b []byte) ([]api.Value, api.Errno) {
	var out []api.Value
	at := 0
	for _, c := range s.Cols {
		if c.Null && at == len(b) {
			return nil, api.ErrShort
		}
		if c.Null && b[at] == 0 {
			out = append(out, null())
			at++
			continue
		}
		if c.Null && b[at] != 1 {
			return nil, api.ErrForm
		}
		if c.Null {
			at++
		}
		v, size, e := value.Get(b[at:], c.Kind)
		if e != api.OK {
			return nil, e
		}
		out = append(out, v)
		at += size
	}
	if at < len(b) {
		return nil, api.ErrForm
	}
	return out, api.OK
}

// checkDecode holds Decode against the model, and against Encode.
func checkDecode(t *testing.T, s api.Schema, b []byte) {
	t.Helper()
	got, e := Decode(s, b)
	want, wantE := model(s, b)
	if e != wantE || !slices.Equal(got, want) {
		t.Fatalf("Decode of %v: %#v, %d, not %#v, %d", b, got, e, want, wantE)
	}
	if e != api.OK {
		return
	}
	if again, e := Encode(s, got); !Fits(s, got) || e != api.OK || !bytes.Equal(again, b) {
		t.Fatalf("Decode of %v: %#v, encoded as %v, %d", b, got, again, e)
	}
}

func TestDecodeFollowsTheDefinition(t *testing.T) {
	schemas := []api.Schema{
		example(), one(api.Int, true), one(api.Str, false), one(api.Bool, true), many(2), many(3),
		bare(api.Col{Name: "a", Kind: api.Bool, Null: true}, api.Col{Name: "b", Kind: api.Str, Null: true}, api.Col{Name: "c", Kind: api.Int, Null: true}),
	}
	signs := []byte{0, 1, 2, 3, 65, 127, 128, 255}
	b := make([]byte, 6)
	for turn := range 1 << (3 * len(b)) {
		for i := range b {
			b[i] = signs[turn>>(3*i)&7]
		}
		cut := turn % 7
		checkDecode(t, schemas[turn%len(schemas)], b[:cut])
		checkDecode(t, schemas[turn/7%len(schemas)], b)
	}
}

func TestEachByteSequenceHasOneRow(t *testing.T) {
	for _, s := range []api.Schema{example(), all(), many(3)} {
		seen := map[string][]api.Value{}
		for turn := range 1024 {
			values := row(s, turn)
			b, _ := Encode(s, values)
			if was, there := seen[string(b)]; there && !slices.Equal(was, values) {
				t.Errorf("%#v and %#v are both encoded as %v", was, values, b)
			}
			seen[string(b)] = values
		}
	}
}

func TestResultsAreApartFromArguments(t *testing.T) {
	values := []api.Value{integer(5), str("abc")}
	b, _ := Encode(example(), values)
	clear(values)
	if want := []byte{10, 1, 3, 97, 98, 99}; !bytes.Equal(b, want) {
		t.Errorf("a change of the row changed its encoding to %v", b)
	}
	got, _ := Decode(example(), b)
	again, _ := Decode(example(), b)
	clear(b)
	if want := []api.Value{integer(5), str("abc")}; !slices.Equal(got, want) {
		t.Errorf("a change of the bytes changed their row to %#v", got)
	}
	clear(got)
	if want := []api.Value{integer(5), str("abc")}; !slices.Equal(again, want) {
		t.Errorf("a change of a row changed another one to %#v", again)
	}
}

func TestErrorsTellTheirColumnAndCause(t *testing.T) {
	for _, c := range []struct {
		b      []byte
		column int
		cause  error
		text   string
	}{
		{[]byte{10}, 1, errNoMark, "column 1: the bytes end before a nullable column"},
		{[]byte{10, 2}, 1, errBadMark, "column 1: a nullable column begins with neither 0 nor 1"},
		{[]byte{128}, 0, refusal(api.ErrShort), "column 0: value.Get returns error 6"},
		{[]byte{10, 1, 65}, 1, refusal(api.ErrLong), "column 1: value.Get returns error 2"},
	} {
		_, err := get(example().Cols, c.b)
		var told columnError
		if !errors.As(err, &told) || told.column != c.column || !errors.Is(err, c.cause) || err.Error() != c.text {
			t.Errorf("get of %v: %v", c.b, err)
		}
	}
	_, err := get(example().Cols, []byte{10, 0, 0})
	var told columnError
	if !errors.Is(err, errMore) || errors.As(err, &told) {
		t.Errorf("get of a row and a byte: %v", err)
	}
}

func FuzzDecode(f *testing.F) {
	for _, c := range records() {
		f.Add(c.b, 3)
		f.Add(slices.Concat(c.b, []byte{1}), 0)
	}
	f.Add([]byte{1, 65}, 2)
	f.Fuzz(func(t *testing.T, b []byte, which int) {
		schemas := []api.Schema{example(), all(), many(8), keyed(all(), 0, 6, 4, 3)}
		checkDecode(t, schemas[uint(which)%4], b)
	})
}

func FuzzEncode(f *testing.F) {
	f.Add(1, 5, "", false, 2, 0, "a", false)
	f.Add(1, 5, "", false, 0, 0, "", false)
	f.Add(1, 5, "", true, 0, 1, "", false)
	f.Add(0, 0, "", false, 4, 0, "", false)
	f.Fuzz(func(t *testing.T, k int, i int, s string, b bool, kind int, n int, text string, truth bool) {
		values := []api.Value{{Kind: k, I: i, S: s, B: b}, {Kind: kind, I: n, S: text, B: truth}}
		out, e := Encode(example(), values)
		fits := value.May(values[0]) && value.May(values[1]) && k == api.Int && (kind == api.Str || kind == api.Null)
		if Fits(example(), values) != fits || (e == api.OK) != fits || !fits && (e != api.ErrArg || len(out) != 0) {
			t.Fatalf("Encode of %#v: %v, %d", values, out, e)
		}
		if !fits {
			return
		}
		if got, e := Decode(example(), out); e != api.OK || !slices.Equal(got, values) {
			t.Errorf("Decode of Encode of %#v: %#v, %d", values, got, e)
		}
	})
}

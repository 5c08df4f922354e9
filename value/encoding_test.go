package value

import (
	"bytes"
	"math"
	"slices"
	"strings"
	"testing"

	"winnower/api"
	"winnower/num"
)

// full is so many digits that are not the last one, and then the bytes of end.
func full(n int, digit byte, end ...byte) []byte {
	return append(bytes.Repeat([]byte{digit}, n), end...)
}

// text is a length and as many bytes of a string as are given.
func text(length int, s string) []byte {
	return append(num.PutLen(nil, length), s...)
}

// encodings are values and what Put has to append for them.
func encodings() []struct {
	v api.Value
	b []byte
} {
	return []struct {
		v api.Value
		b []byte
	}{
		{null(), nil},
		{integer(0), []byte{0}}, {integer(-1), []byte{1}}, {integer(1), []byte{2}}, {integer(63), []byte{126}}, {integer(64), []byte{128, 1}},
		{integer(-64), []byte{127}}, {integer(-65), []byte{129, 1}}, {integer(300), []byte{216, 4}},
		{integer(math.MaxInt), append([]byte{254}, full(8, 255, 1)...)}, {integer(math.MinInt), full(9, 255, 1)},
		{str(""), []byte{0}}, {str("a"), []byte{1, 97}}, {str("ab"), []byte{2, 97, 98}}, {str("\x00"), []byte{1, 0}}, {str("\xff\x80"), []byte{2, 255, 128}},
		{str("é"), []byte{2, 195, 169}}, {str(letters(63)), append([]byte{63}, letters(63)...)}, {str(letters(64)), append([]byte{64}, letters(64)...)},
		{boolean(false), []byte{0}}, {boolean(true), []byte{1}},
	}
}

func TestPutAppendsTheEncoding(t *testing.T) {
	for _, c := range encodings() {
		for _, before := range [][]byte{nil, {}, {9}, {0, 255, 128}, bytes.Repeat([]byte{7}, 100)} {
			b, e := Put(before, c.v)
			if e != api.OK || !bytes.Equal(b, slices.Concat(before, c.b)) {
				t.Errorf("Put of %#v behind %v: %v, %d", c.v, before, b, e)
			}
		}
	}
}

func TestPutFollowsTheDefinition(t *testing.T) {
	for _, v := range rising() {
		var want []byte
		switch v.Kind {
		case api.Int:
			want = num.Put(nil, v.I)
		case api.Str:
			want = text(len(v.S), v.S)
		case api.Bool:
			want = map[bool][]byte{false: {0}, true: {1}}[v.B]
		}
		if b, e := Put(nil, v); e != api.OK || !bytes.Equal(b, want) {
			t.Errorf("Put of %#v: %v, %d, not %v", v, b, e, want)
		}
	}
}

func TestPutRefusesInvalidValues(t *testing.T) {
	bad := []api.Value{str(letters(65)), str(letters(1000)), str(strings.Repeat("é", 33))}
	for _, v := range rising() {
		for _, noise := range noises() {
			if w := noisy(v, noise); w != v {
				bad = append(bad, w)
			}
		}
		for _, kind := range unknownKinds() {
			bad = append(bad, withKind(v, kind))
		}
	}
	for _, v := range bad {
		for _, before := range [][]byte{nil, {}, {1, 2, 3}} {
			if b, e := Put(before, v); len(b) != 0 || e != api.ErrArg {
				t.Errorf("Put of %#v behind %v: %v, %d", v, before, b, e)
			}
		}
	}
}

func TestPutLeavesItsArgumentAlone(t *testing.T) {
	values := append(rising(), str(letters(65)), api.Value{Kind: 4}, api.Value{Kind: api.Bool, I: 1})
	for _, v := range values {
		for length := range 4 {
			array := bytes.Repeat([]byte{77}, 100)
			out, _ := Put(array[:length], v)
			if !bytes.Equal(array, bytes.Repeat([]byte{77}, 100)) {
				t.Fatalf("Put of %#v behind %d of 100 bytes changed the array to %v", v, length, array)
			}
			was := bytes.Clone(out)
			for i := range array {
				array[i] = 55
			}
			if !bytes.Equal(out, was) {
				t.Fatalf("Put of %#v: a change of the argument changed the result to %v", v, out)
			}
			out = out[:cap(out)]
			for i := range out {
				out[i] = 33
			}
			if !bytes.Equal(array, bytes.Repeat([]byte{55}, 100)) {
				t.Fatalf("Put of %#v: a change of the result changed the argument to %v", v, array)
			}
		}
	}
}

func TestTwoResultsOfOnePrefixAreApart(t *testing.T) {
	prefix := make([]byte, 1, 100)
	for _, v := range rising() {
		a, _ := Put(prefix, v)
		was := bytes.Clone(a)
		for _, w := range rising() {
			Put(prefix, w)
		}
		if !bytes.Equal(a, was) {
			t.Errorf("Put of %#v became %v", v, a)
		}
	}
}

func TestGetTakesWhatBelongsToTheValue(t *testing.T) {
	for _, c := range encodings() {
		for _, after := range [][]byte{nil, {0}, {255}, {128, 128, 128}, bytes.Repeat([]byte{1}, 100)} {
			b := slices.Concat(c.b, after)
			if v, size, e := Get(b, c.v.Kind); v != c.v || size != len(c.b) || e != api.OK {
				t.Errorf("Get of %v, kind %d: %#v, %d, %d", b, c.v.Kind, v, size, e)
			}
			b = slices.Concat([]byte{byte(c.v.Kind)}, b)
			if v, size, e := Any(b); v != c.v || size != 1+len(c.b) || e != api.OK {
				t.Errorf("Any of %v: %#v, %d, %d", b, v, size, e)
			}
		}
	}
}

// fails checks that Get, and Any behind the kind, return the error and nothing else.
func fails(t *testing.T, b []byte, kind int, want api.Errno) {
	t.Helper()
	if v, size, e := Get(b, kind); !isZero(v) || size != 0 || e != want {
		t.Errorf("Get of %v, kind %d: %#v, %d, %d, not %d", b, kind, v, size, e, want)
	}
	if v, size, e := Any(slices.Concat([]byte{byte(kind)}, b)); !isZero(v) || size != 0 || e != want {
		t.Errorf("Any of %v, kind %d: %#v, %d, %d, not %d", b, kind, v, size, e, want)
	}
}

func TestGetOfNothing(t *testing.T) {
	for _, b := range [][]byte{nil, {}} {
		if v, size, e := Get(b, api.Null); v != null() || size != 0 || e != api.OK {
			t.Errorf("Get of Null: %#v, %d, %d", v, size, e)
		}
		for _, kind := range []int{api.Int, api.Str, api.Bool} {
			fails(t, b, kind, api.ErrShort)
		}
	}
}

func TestGetIntErrors(t *testing.T) {
	for _, b := range [][]byte{{128}, {255}, {128, 128}, full(9, 128), full(9, 255)} {
		fails(t, b, api.Int, api.ErrShort)
	}
	for _, b := range [][]byte{{128, 0}, {255, 0, 1}, {128, 128, 0}, full(9, 255, 0), full(9, 255, 2), full(9, 128, 128), full(30, 255)} {
		fails(t, b, api.Int, api.ErrForm)
	}
}

func TestGetStrErrors(t *testing.T) {
	for _, c := range []struct {
		name string
		b    []byte
		e    api.Errno
	}{
		{"the length ends", []byte{128}, api.ErrShort},
		{"the length ends behind nine digits", full(9, 255), api.ErrShort},
		{"a length of more digits than it needs", []byte{129, 0, 97}, api.ErrForm},
		{"a length of 0 of two digits", []byte{128, 0}, api.ErrForm},
		{"a length of 2^63", full(9, 128, 1), api.ErrForm},
		{"a length of 2^64 - 1", full(9, 255, 1, 97), api.ErrForm},
		{"a tenth digit 2", full(9, 255, 2, 97), api.ErrForm},
		{"1 byte of no one", text(1, ""), api.ErrShort},
		{"3 bytes of two", text(3, "ab"), api.ErrShort},
		{"64 bytes of 63", text(64, letters(63)), api.ErrShort},
		{"64 bytes of no one", text(64, ""), api.ErrShort},
		{"65 bytes", text(65, letters(65)), api.ErrLong},
		{"65 bytes and more", text(65, letters(200)), api.ErrLong},
		{"65 bytes of 64", text(65, letters(64)), api.ErrLong},
		{"65 bytes of no one", text(65, ""), api.ErrLong},
		{"127 bytes of 3", text(127, "abc"), api.ErrLong},
		{"128 bytes", text(128, letters(128)), api.ErrLong},
		{"2^32 bytes of no one", text(1<<32, ""), api.ErrLong},
		{"2^63 - 1 bytes of no one", text(math.MaxInt, ""), api.ErrLong},
		{"2^63 - 1 bytes of 3", text(math.MaxInt, "abc"), api.ErrLong},
		{"2^63 - 2 bytes of 80", text(math.MaxInt-1, letters(80)), api.ErrLong},
	} {
		t.Run(c.name, func(t *testing.T) { fails(t, c.b, api.Str, c.e) })
	}
}

func TestGetBoolTakesOneOfTwoBytes(t *testing.T) {
	for c := range 256 {
		for _, after := range [][]byte{nil, {0}, {1}, {255, 0}} {
			b := append([]byte{byte(c)}, after...)
			if c > 1 {
				fails(t, b, api.Bool, api.ErrForm)
				continue
			}
			if v, size, e := Get(b, api.Bool); v != boolean(c == 1) || size != 1 || e != api.OK {
				t.Errorf("Get of the Bool %v: %#v, %d, %d", b, v, size, e)
			}
		}
	}
}

// The kind comes first: no bytes make up for one that is not known, nor hide it.
func TestGetOfUnknownKinds(t *testing.T) {
	for _, kind := range unknownKinds() {
		for _, b := range [][]byte{nil, {}, {0}, {1}, {2}, {128}, {128, 0}, {65}, {2, 97, 98}} {
			if v, size, e := Get(b, kind); !isZero(v) || size != 0 || e != api.ErrArg {
				t.Errorf("Get of %v, kind %d: %#v, %d, %d", b, kind, v, size, e)
			}
		}
	}
}

func TestAnyExamples(t *testing.T) {
	for _, c := range []struct {
		b    []byte
		v    api.Value
		size int
		e    api.Errno
	}{
		{nil, api.Value{}, 0, api.ErrShort}, {[]byte{}, api.Value{}, 0, api.ErrShort},
		{[]byte{0}, null(), 1, api.OK}, {[]byte{0, 7}, null(), 1, api.OK},
		{[]byte{1, 128, 1, 5}, integer(64), 3, api.OK}, {[]byte{2, 2, 97, 98, 99}, str("ab"), 4, api.OK}, {[]byte{2, 0}, str(""), 2, api.OK},
		{[]byte{3, 0}, boolean(false), 2, api.OK}, {[]byte{3, 1, 1}, boolean(true), 2, api.OK},
		{[]byte{1}, api.Value{}, 0, api.ErrShort}, {[]byte{2}, api.Value{}, 0, api.ErrShort}, {[]byte{3}, api.Value{}, 0, api.ErrShort},
		{[]byte{1, 128, 0}, api.Value{}, 0, api.ErrForm}, {[]byte{2, 65}, api.Value{}, 0, api.ErrLong}, {[]byte{3, 2}, api.Value{}, 0, api.ErrForm},
	} {
		if v, size, e := Any(c.b); v != c.v || size != c.size || e != c.e {
			t.Errorf("Any of %v: %#v, %d, %d", c.b, v, size, e)
		}
	}
}

func TestAnyOfUnknownKinds(t *testing.T) {
	for kind := 4; kind < 256; kind++ {
		for _, after := range [][]byte{nil, {0}, {1, 97}, {128}, {65}} {
			b := append([]byte{byte(kind)}, after...)
			if v, size, e := Any(b); !isZero(v) || size != 0 || e != api.ErrForm {
				t.Errorf("Any of %v: %#v, %d, %d", b, v, size, e)
			}
		}
	}
}

func TestGetReturnsWhatPutEncoded(t *testing.T) {
	for _, v := range rising() {
		b, _ := Put(nil, v)
		if got, size, e := Get(append(bytes.Clone(b), 255), v.Kind); got != v || size != len(b) || e != api.OK {
			t.Errorf("Get of Put of %#v: %#v, %d, %d", v, got, size, e)
		}
		told, _ := Put([]byte{byte(v.Kind)}, v)
		if got, size, e := Any(append(bytes.Clone(told), 255)); got != v || size != len(told) || e != api.OK {
			t.Errorf("Any of Put of %#v: %#v, %d, %d", v, got, size, e)
		}
		for cut := range b {
			fails(t, b[:cut], v.Kind, api.ErrShort)
		}
	}
}

// Values one behind the other are found again, so that each encoding tells its own end.
func TestValuesInARow(t *testing.T) {
	var b []byte
	for _, v := range rising() {
		b, _ = Put(append(b, byte(v.Kind)), v)
	}
	for _, want := range rising() {
		v, size, e := Any(b)
		if v != want || e != api.OK {
			t.Fatalf("%#v, %d, not %#v", v, e, want)
		}
		b = b[size:]
	}
	if len(b) != 0 {
		t.Errorf("%d bytes are left", len(b))
	}
}

func TestGetKeepsNothingOfItsArgument(t *testing.T) {
	b := []byte{api.Str, 3, 97, 98, 99, 7}
	was := bytes.Clone(b)
	got, _, _ := Get(b[1:], api.Str)
	told, _, _ := Any(b)
	if !bytes.Equal(b, was) {
		t.Errorf("the bytes became %v", b)
	}
	clear(b)
	if got != str("abc") || told != str("abc") {
		t.Errorf("a change of the bytes changed the values to %#v and %#v", got, told)
	}
}

// checkGet holds what is decoded from b, if it is anything, against its encoding.
func checkGet(t *testing.T, b []byte, kind int) {
	v, size, e := Get(b, kind)
	known := kind >= api.Null && kind <= api.Bool
	if e != api.OK {
		if !isZero(v) || size != 0 || known == (e == api.ErrArg) || e == api.ErrLong && kind != api.Str {
			t.Errorf("Get of %v, kind %d: %#v, %d, %d", b, kind, v, size, e)
		}
		return
	}
	again, _ := Put(nil, v)
	if !known || v.Kind != kind || !May(v) || !bytes.Equal(again, b[:size]) {
		t.Errorf("Get of %v, kind %d: %#v of %d bytes, encoded as %v", b, kind, v, size, again)
	}
}

// checkAny holds Any against Get.
func checkAny(t *testing.T, b []byte) {
	want, size, e := api.Value{}, 0, api.ErrShort
	if len(b) > 0 && b[0] > 3 {
		e = api.ErrForm
	} else if len(b) > 0 {
		want, size, e = Get(b[1:], int(b[0]))
	}
	if e == api.OK {
		size++
	}
	if v, n, got := Any(b); v != want || n != size || got != e {
		t.Errorf("Any of %v: %#v, %d, %d, not %#v, %d, %d", b, v, n, got, want, size, e)
	}
}

func TestPutReturnsWhatGetDecoded(t *testing.T) {
	for a := range 256 {
		for b := range 256 {
			for _, kind := range knownKinds() {
				checkGet(t, []byte{byte(a)}, kind)
				checkGet(t, []byte{byte(a), byte(b)}, kind)
				checkGet(t, full(8, 255, byte(a), byte(b)), kind)
				checkGet(t, append([]byte{byte(a), byte(b)}, letters(70)...), kind)
			}
			checkAny(t, []byte{byte(a), byte(b)})
			checkAny(t, append([]byte{byte(a), byte(b)}, letters(70)...))
		}
	}
}

func FuzzGet(f *testing.F) {
	for _, c := range encodings() {
		f.Add(c.b, c.v.Kind)
		f.Add(c.b, -1)
	}
	f.Add(text(65, letters(65)), api.Str)
	f.Add(full(9, 255, 2), api.Int)
	f.Fuzz(func(t *testing.T, b []byte, kind int) {
		checkGet(t, b, kind)
		checkAny(t, b)
	})
}

func FuzzPut(f *testing.F) {
	f.Add([]byte{1}, 2, 0, "ab", false)
	f.Add([]byte{}, 1, -5, "", false)
	f.Add([]byte{}, 3, 0, "", true)
	f.Add([]byte{}, 0, 0, "a", false)
	f.Fuzz(func(t *testing.T, b []byte, kind, i int, s string, truth bool) {
		v := api.Value{Kind: kind, I: i, S: s, B: truth}
		out, e := Put(b, v)
		if (e == api.OK) != May(v) || e != api.OK && (e != api.ErrArg || len(out) != 0) {
			t.Fatalf("Put of %#v: %v, %d", v, out, e)
		}
		if e != api.OK {
			return
		}
		got, size, e := Get(out[len(b):], kind)
		if got != v || size != len(out)-len(b) || e != api.OK || !bytes.Equal(out[:len(b)], b) {
			t.Errorf("Get of Put of %#v: %#v, %d, %d", v, got, size, e)
		}
	})
}

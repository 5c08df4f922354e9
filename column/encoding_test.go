package column

import (
	"bytes"
	"math"
	"slices"
	"strings"
	"testing"

	"winnower/api"
	"winnower/num"
)

// full is so many digits that are not the last one, and then the bytes of end.
func full(n int, end ...byte) []byte {
	return append(bytes.Repeat([]byte{255}, n), end...)
}

// raw is the encoding of an element of Dict by the definition: a kind, and what belongs to it.
func raw(v api.Value) []byte {
	switch v.Kind {
	case api.Int:
		return num.Put([]byte{1}, v.I)
	case api.Str:
		return append(num.PutLen([]byte{2}, len(v.S)), v.S...)
	case api.Bool:
		return []byte{3, map[bool]byte{false: 0, true: 1}[v.B]}
	}
	return []byte{0}
}

// parts are the bytes of c that num writes, of its values, and its Ids, valid or not.
func parts(c api.Column) [][]byte {
	out := [][]byte{num.PutLen(nil, c.N), num.PutLen(nil, len(c.Dict))}
	for _, v := range c.Dict {
		out = append(out, raw(v))
	}
	return append(out, c.Ids)
}

func encoded(c api.Column) []byte {
	return slices.Concat(parts(c)...)
}

// wantGet checks that b begins with the encoding of c, which has size bytes.
func wantGet(t *testing.T, b []byte, c api.Column, size int) {
	t.Helper()
	if got, n, e := Get(b); !sameColumn(got, c) || n != size || e != api.OK {
		t.Errorf("Get of %d bytes: %#v, %d, %d, not %#v, %d", len(b), got, n, e, c, size)
	}
}

// fails checks that Get returns the error and nothing else.
func fails(t *testing.T, b []byte, want api.Errno) {
	t.Helper()
	if c, n, e := Get(b); e != want || n != 0 || !isZero(c) {
		t.Errorf("Get of %d bytes, first %v: %#v, %d, %d, not %d", len(b), b[:min(len(b), 20)], c, n, e, want)
	}
}

func TestPut(t *testing.T) {
	for _, c := range []struct {
		l []api.Value
		b []byte
	}{
		{nil, []byte{0, 0}},
		{integers(7), []byte{1, 1, 1, 14}},
		{[]api.Value{null()}, []byte{1, 1, 0}},
		{[]api.Value{null(), null()}, []byte{2, 1, 0}},
		{integers(7, 3, 7), []byte{3, 2, 1, 6, 1, 14, 5}},
		{integers(64, -1), []byte{2, 2, 1, 1, 1, 128, 1, 1}},
		{[]api.Value{str("ab"), str("")}, []byte{2, 2, 2, 0, 2, 2, 97, 98, 1}},
		{[]api.Value{boolean(true), boolean(false)}, []byte{2, 2, 3, 0, 3, 1, 1}},
		{[]api.Value{boolean(true), str("a"), integer(5), null()}, []byte{4, 4, 0, 1, 10, 2, 1, 97, 3, 1, 27}},
		{slices.Repeat(integers(1), 128), []byte{128, 1, 1, 1, 2}},
	} {
		b, e := Put(built(t, c.l))
		if e != api.OK || !bytes.Equal(b, c.b) {
			t.Errorf("Put of %#v: %v, %d, not %v", c.l, b, e, c.b)
		}
		wantGet(t, c.b, model(c.l), len(c.b))
	}
}

func TestPutOfManyValues(t *testing.T) {
	for _, count := range []int{1, 2, 3, 4, 5, 127, 128, 255, 256, 257, 4095, 4096} {
		for _, rows := range []int{count, count + 1, 4096} {
			l := scattered(min(rows, 4096), count)
			c := model(l)
			b, e := Put(c)
			if e != api.OK || !bytes.Equal(b, encoded(c)) {
				t.Fatalf("%d values, %d rows: %d bytes, %d", count, rows, len(b), e)
			}
			if ids := (c.N*bitsOf(count) + 7) / 8; !bytes.Equal(b[len(b)-ids:], c.Ids) {
				t.Errorf("%d values, %d rows: the last %d bytes are not Ids", count, rows, ids)
			}
		}
	}
}

func TestGetReturnsWhatWasPut(t *testing.T) {
	for name, l := range lists() {
		b, e := Put(built(t, l))
		if e != api.OK || !bytes.Equal(b, encoded(model(l))) {
			t.Fatalf("%s: Put: %d bytes, %d", name, len(b), e)
		}
		for _, after := range [][]byte{nil, {0}, {1}, {255}, {128, 128}, b, bytes.Repeat([]byte{3}, 5000)} {
			wantGet(t, slices.Concat(b, after), model(l), len(b))
		}
	}
}

func TestPutOfValidColumns(t *testing.T) {
	for name, c := range columns() {
		b, e := Put(c)
		if e != api.OK || !bytes.Equal(b, encoded(c)) {
			t.Errorf("%s: %d bytes, %d", name, len(b), e)
		}
		wantGet(t, b, c, len(b))
	}
}

func TestGetOfEachBeginning(t *testing.T) {
	fails(t, nil, api.ErrShort)
	for _, l := range lists() {
		b := encoded(model(l))
		// Of long encodings all beginnings near the ends, and some others.
		for size := 0; size < len(b); size++ {
			if size > 300 && size < len(b)-50 && size%97 != 0 {
				continue
			}
			fails(t, b[:size:size], api.ErrShort)
		}
	}
}

func TestGetOfCounts(t *testing.T) {
	one := []byte{1, 1, 14}
	for _, c := range []struct {
		b []byte
		e api.Errno
	}{
		{nil, api.ErrShort}, {[]byte{128}, api.ErrShort}, {full(9), api.ErrShort}, {full(8), api.ErrShort},
		{[]byte{128, 0}, api.ErrForm}, {[]byte{129, 0}, api.ErrForm}, {[]byte{129, 128, 0}, api.ErrForm}, {full(9, 0), api.ErrForm},
		{full(9, 1), api.ErrForm}, {full(9, 2), api.ErrForm}, {full(9, 128), api.ErrForm}, {full(9, 255), api.ErrForm}, {full(20), api.ErrForm},
		{num.PutLen(nil, 4097), api.ErrLong}, {num.PutLen(nil, 4098), api.ErrLong}, {num.PutLen(nil, 8192), api.ErrLong}, {num.PutLen(nil, 65536), api.ErrLong},
		{num.PutLen(nil, 1<<32), api.ErrLong}, {num.PutLen(nil, 1<<32+1), api.ErrLong}, {num.PutLen(nil, 1<<62), api.ErrLong}, {num.PutLen(nil, math.MaxInt), api.ErrLong},
		// There is no error in these, but the bytes end behind them.
		{[]byte{1}, api.ErrShort}, {[]byte{127}, api.ErrShort}, {num.PutLen(nil, 128), api.ErrShort}, {num.PutLen(nil, 4096), api.ErrShort},
	} {
		fails(t, c.b, c.e)
		for _, n := range []int{0, 1, 2, 4096} {
			fails(t, append(num.PutLen(nil, n), c.b...), c.e)
		}
		if c.e == api.ErrShort {
			continue
		}
		// What follows makes no difference, be it a good column, a bad one, or none.
		for _, after := range [][]byte{one, {0}, {128}, {128, 0}, full(9, 2), num.PutLen(nil, 4097), bytes.Repeat(one, 3000)} {
			fails(t, slices.Concat(c.b, after), c.e)
			fails(t, slices.Concat([]byte{1}, c.b, after), c.e)
		}
	}
}

func TestGetOfTheGreatestCounts(t *testing.T) {
	same := append(num.PutLen(nil, 4096), 1, 1, 14)
	wantGet(t, same, api.Column{N: 4096, Dict: integers(7)}, 5)
	many := encoded(model(upto(4096)))
	wantGet(t, many, model(upto(4096)), len(many))
	// 4096 values are not too many, but no row has one.
	none := append(num.PutLen([]byte{0}, 4096), many[4:len(many)-6144]...)
	fails(t, none, api.ErrForm)
	fails(t, none[:len(none)-1], api.ErrShort)
	none[1], none[2] = 129, 32
	fails(t, none, api.ErrLong)
	for _, n := range []int{4096, 4097} {
		c := api.Column{N: 4096, Dict: upto(n), Ids: packed(from(0, 4096), bitsOf(n))}
		want := map[int]api.Errno{4096: api.OK, 4097: api.ErrLong}[n]
		if _, _, e := Get(encoded(c)); e != want {
			t.Errorf("%d values: %d", n, e)
		}
	}
}

// badValues are bytes that value.Any refuses, with its error.
func badValues() []struct {
	b []byte
	e api.Errno
} {
	return []struct {
		b []byte
		e api.Errno
	}{
		{nil, api.ErrShort}, {[]byte{1}, api.ErrShort}, {[]byte{1, 128}, api.ErrShort}, {append([]byte{1}, full(9)...), api.ErrShort},
		{[]byte{2}, api.ErrShort}, {[]byte{2, 1}, api.ErrShort}, {[]byte{2, 3, 97, 98}, api.ErrShort}, {[]byte{2, 128}, api.ErrShort},
		{append([]byte{2, 64}, letters(63)...), api.ErrShort}, {[]byte{3}, api.ErrShort},
		{[]byte{4}, api.ErrForm}, {[]byte{5, 0}, api.ErrForm}, {[]byte{128, 0}, api.ErrForm}, {[]byte{255}, api.ErrForm},
		{[]byte{1, 128, 0}, api.ErrForm}, {append([]byte{1}, full(9, 2)...), api.ErrForm},
		{[]byte{2, 129, 0, 97}, api.ErrForm}, {append([]byte{2}, full(9, 1)...), api.ErrForm}, {[]byte{3, 2}, api.ErrForm}, {[]byte{3, 255}, api.ErrForm},
		{[]byte{2, 65}, api.ErrLong}, {append([]byte{2, 65}, letters(65)...), api.ErrLong}, {append([]byte{2}, num.PutLen(nil, math.MaxInt)...), api.ErrLong},
	}
}

func TestGetReturnsTheErrorsOfValues(t *testing.T) {
	for _, c := range badValues() {
		for _, n := range []int{0, 1, 2, 4096} {
			head := num.PutLen(nil, n)
			fails(t, slices.Concat(head, []byte{1}, c.b), c.e)
			fails(t, slices.Concat(head, []byte{3}, c.b), c.e)
			fails(t, slices.Concat(head, num.PutLen(nil, 4096), c.b), c.e)
			// Behind good values, the last of them, and behind values that do not rise.
			fails(t, slices.Concat(head, []byte{2, 1, 14}, c.b), c.e)
			fails(t, slices.Concat(head, []byte{3, 0, 0}, c.b), c.e)
			fails(t, slices.Concat(head, []byte{5, 3, 1, 2, 1, 97, 1, 14, 0}, c.b), c.e)
			if c.e != api.ErrShort {
				fails(t, slices.Concat(head, []byte{2}, c.b, []byte{1, 14, 2}), c.e)
				fails(t, slices.Concat(head, []byte{2}, c.b, []byte{9}), c.e)
				fails(t, slices.Concat(head, []byte{2}, c.b, []byte{2, 65}), c.e)
			}
		}
	}
}

func TestGetOfEachKind(t *testing.T) {
	for _, v := range rising() {
		b := slices.Concat([]byte{3, 1}, raw(v))
		wantGet(t, b, api.Column{N: 3, Dict: []api.Value{v}}, len(b))
	}
	for kind := range 256 {
		b := []byte{1, 1, byte(kind), 0}
		switch kind {
		case 0:
			wantGet(t, b, api.Column{N: 1, Dict: []api.Value{null()}}, 3)
		case 1:
			wantGet(t, b, api.Column{N: 1, Dict: integers(0)}, 4)
		case 2:
			wantGet(t, b, api.Column{N: 1, Dict: []api.Value{str("")}}, 4)
		case 3:
			wantGet(t, b, api.Column{N: 1, Dict: []api.Value{boolean(false)}}, 4)
		default:
			fails(t, b, api.ErrForm)
		}
	}
}

func TestGetOfIds(t *testing.T) {
	two := []byte{1, 6, 1, 14}
	for ids := range 256 {
		b := slices.Concat([]byte{3, 2}, two, []byte{byte(ids)})
		if ids > 0 && ids < 7 {
			wantGet(t, b, api.Column{N: 3, Dict: integers(3, 7), Ids: []byte{byte(ids)}}, 7)
			wantGet(t, append(b, 0), api.Column{N: 3, Dict: integers(3, 7), Ids: []byte{byte(ids)}}, 7)
		} else {
			fails(t, b, api.ErrForm)
			fails(t, append(b, 5), api.ErrForm)
		}
	}
	fails(t, slices.Concat([]byte{3, 2}, two), api.ErrShort)
	fails(t, slices.Concat([]byte{9, 2}, two, []byte{254}), api.ErrShort)
	wantGet(t, slices.Concat([]byte{9, 2}, two, []byte{254, 1}), api.Column{N: 9, Dict: integers(3, 7), Ids: []byte{254, 1}}, 8)
	fails(t, slices.Concat([]byte{9, 2}, two, []byte{254, 2}), api.ErrForm)
	// A Dict that does not rise, or has more values than there are rows, is an error only where there are Ids.
	for _, wrong := range [][]byte{{1, 14, 1, 6}, {1, 6, 1, 6}, {0, 0}, {2, 1, 97, 1, 6}, {3, 1, 3, 0}} {
		fails(t, slices.Concat([]byte{3, 2}, wrong), api.ErrShort)
		fails(t, slices.Concat([]byte{3, 2}, wrong, []byte{5}), api.ErrForm)
	}
	fails(t, slices.Concat([]byte{1, 2}, two), api.ErrShort)
	fails(t, slices.Concat([]byte{1, 2}, two, []byte{1}), api.ErrForm)
}

func TestGetOfInvalidColumns(t *testing.T) {
	for name, c := range bad() {
		fits := c.N >= 0 && c.N <= 4096 && len(c.Dict) <= 4096 && len(c.Ids) == (c.N*bitsOf(len(c.Dict))+7)/8
		if !fits || strings.HasPrefix(name, "value ") {
			continue
		}
		b := encoded(c)
		for _, after := range [][]byte{nil, {0}, {5}, b} {
			if got, size, e := Get(slices.Concat(b, after)); e != api.ErrForm || size != 0 || !isZero(got) {
				t.Errorf("%s: %#v, %d, %d", name, got, size, e)
			}
		}
		// That the column is not valid is an error only behind its last byte.
		for size := max(0, len(b)-10); size < len(b); size++ {
			fails(t, b[:size:size], api.ErrShort)
		}
	}
	fails(t, []byte{1, 0}, api.ErrForm)
	fails(t, []byte{0, 1, 0}, api.ErrForm)
	fails(t, []byte{0, 1, 1, 14}, api.ErrForm)
	fails(t, []byte{0, 2, 1, 6, 1, 14}, api.ErrForm)
	fails(t, append(num.PutLen(nil, 4096), 0), api.ErrForm)
}

// TestGetOfShortBytes has all sequences of seven of a few bytes: what Get takes of them is
// what Put makes of the column, and what it does not take begins no encoding.
func TestGetOfShortBytes(t *testing.T) {
	signs := []byte{0, 1, 2, 3, 5, 128}
	count := 0
	all(7, len(signs), func(numbers []int) {
		b := make([]byte, len(numbers))
		for i, n := range numbers {
			b[i] = signs[n]
		}
		c, size, e := Get(b)
		if e != api.OK {
			fails(t, b, e)
			return
		}
		count++
		if size > len(b) || !May(c) || !bytes.Equal(encoded(c), b[:size]) {
			t.Fatalf("Get of %v: %#v, %d", b, c, size)
		}
		if again, e := Put(c); e != api.OK || !bytes.Equal(again, b[:size]) {
			t.Fatalf("Put of %#v: %v, %d, not %v", c, again, e, b[:size])
		}
	})
	if count == 0 {
		t.Error("no column")
	}
}

func TestPutSharesNothing(t *testing.T) {
	for name, l := range lists() {
		c := model(l)
		given := copied(c)
		given.Ids = slices.Grow(given.Ids, 9)
		behind := given.Ids[:cap(given.Ids)]
		was := bytes.Clone(behind)
		b, _ := Put(given)
		other, _ := Put(given)
		if !sameColumn(given, c) || !bytes.Equal(behind, was) {
			t.Errorf("%s: Put changed its argument", name)
		}
		spoilBytes(b)
		if !sameColumn(given, c) || !bytes.Equal(behind, was) || !bytes.Equal(other, encoded(c)) {
			t.Errorf("%s: a change of the bytes changed something else", name)
		}
		spoil(given.Dict)
		spoilBytes(given.Ids)
		if !bytes.Equal(other, encoded(c)) {
			t.Errorf("%s: a change of the column changed the bytes", name)
		}
	}
}

func TestGetSharesNothing(t *testing.T) {
	for name, l := range lists() {
		c := model(l)
		b := slices.Concat(encoded(c), []byte{1, 2, 3})
		was := bytes.Clone(b)
		first, _, _ := Get(b)
		second, size, _ := Get(b)
		if !bytes.Equal(b, was) {
			t.Errorf("%s: Get changed its argument", name)
		}
		spoil(first.Dict)
		spoilBytes(first.Ids)
		if !bytes.Equal(b, was) || !sameColumn(second, c) || size != len(b)-3 {
			t.Errorf("%s: a change of the column changed something else", name)
		}
		spoilBytes(b)
		if !sameColumn(second, c) {
			t.Errorf("%s: a change of the bytes changed the column", name)
		}
	}
}

// FuzzGet holds what Get takes against Put.
func FuzzGet(f *testing.F) {
	f.Add([]byte{3, 2, 1, 6, 1, 14, 5})
	f.Add([]byte{4, 4, 0, 1, 10, 2, 1, 97, 3, 1, 27, 9})
	f.Add([]byte{128, 32, 1, 0})
	f.Fuzz(func(t *testing.T, b []byte) {
		c, size, e := Get(b)
		if e != api.OK {
			fails(t, b, e)
			return
		}
		again, e := Put(c)
		if e != api.OK || size > len(b) || !bytes.Equal(again, b[:size]) {
			t.Fatalf("Get of %v: %#v, %d; Put: %v, %d", b, c, size, again, e)
		}
		wantValues(t, built(t, Values(c)), Values(c))
	})
}

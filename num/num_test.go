package num

import (
	"bytes"
	"math"
	"math/big"
	"testing"

	"winnower/api"
)

// digitsOf follows the chapter's definition of a varint, with big numbers, so that it
// shares no trick of bits with the code that it judges.
func digitsOf(u *big.Int) []byte {
	rest, digit, base := new(big.Int).Set(u), new(big.Int), big.NewInt(128)
	var out []byte
	for {
		rest.DivMod(rest, base, digit)
		if rest.Sign() == 0 {
			return append(out, byte(digit.Int64()))
		}
		out = append(out, byte(digit.Int64()+128))
	}
}

// zigzagOf follows the chapter's definition of a zigzag value.
func zigzagOf(n int) *big.Int {
	u := big.NewInt(int64(n))
	if n >= 0 {
		return u.Mul(u, big.NewInt(2))
	}
	u.Mul(u, big.NewInt(-2))
	return u.Sub(u, big.NewInt(1))
}

func putWant(n int) []byte    { return digitsOf(zigzagOf(n)) }
func putLenWant(n int) []byte { return digitsOf(big.NewInt(int64(n))) }

// samples are the integers around every power of two, on both sides of zero, and some
// others spread over all of them: each place where the number of digits changes is there.
func samples() []int {
	l := []int{0, 300, -300, math.MinInt, math.MinInt + 1, math.MaxInt, math.MaxInt - 1}
	for s := range 63 {
		p := 1 << s
		l = append(l, p-1, p, p+1, -p-1, -p, -p+1)
	}
	x := uint64(1)
	for range 2000 {
		x = x*6364136223846793005 + 1442695040888963407
		l = append(l, int(x), int(x)>>(x%64))
	}
	return l
}

// full is so many digits that are not the last one, and then the bytes of end.
func full(n int, digit byte, end ...byte) []byte {
	return append(bytes.Repeat([]byte{digit}, n), end...)
}

func TestPutExamples(t *testing.T) {
	for _, c := range []struct {
		n int
		b []byte
	}{
		{0, []byte{0}}, {-1, []byte{1}}, {1, []byte{2}}, {-2, []byte{3}},
		{63, []byte{126}}, {-64, []byte{127}}, {64, []byte{128, 1}}, {-65, []byte{129, 1}},
		{8191, []byte{254, 127}}, {-8192, []byte{255, 127}}, {8192, []byte{128, 128, 1}},
		{1 << 62, full(9, 128, 1)},
		{math.MaxInt, append([]byte{254}, full(8, 255, 1)...)},
		{math.MinInt, full(9, 255, 1)},
	} {
		if b := Put(nil, c.n); !bytes.Equal(b, c.b) {
			t.Errorf("Put of %d: %v, not %v", c.n, b, c.b)
		}
		if k := Size(c.n); k != len(c.b) {
			t.Errorf("Size of %d: %d, not %d", c.n, k, len(c.b))
		}
	}
}

func TestPutLenExamples(t *testing.T) {
	for _, c := range []struct {
		n int
		b []byte
	}{
		{0, []byte{0}}, {1, []byte{1}}, {127, []byte{127}}, {128, []byte{128, 1}}, {300, []byte{172, 2}},
		{16383, []byte{255, 127}}, {16384, []byte{128, 128, 1}},
		{1 << 62, full(8, 128, 64)}, {math.MaxInt, full(8, 255, 127)},
	} {
		if b := PutLen(nil, c.n); !bytes.Equal(b, c.b) {
			t.Errorf("PutLen of %d: %v, not %v", c.n, b, c.b)
		}
	}
}

func TestPutFollowsTheDefinition(t *testing.T) {
	for _, n := range samples() {
		want := putWant(n)
		if b := Put([]byte{9, 200}, n); !bytes.Equal(b, append([]byte{9, 200}, want...)) {
			t.Errorf("Put of %d: %v, not %v", n, b, want)
		}
		if k := Size(n); k != len(want) {
			t.Errorf("Size of %d: %d, not %d", n, k, len(want))
		}
		if n < 0 {
			continue
		}
		if b := PutLen([]byte{9, 200}, n); !bytes.Equal(b, append([]byte{9, 200}, putLenWant(n)...)) {
			t.Errorf("PutLen of %d: %v", n, b)
		}
	}
}

func TestPutLenOfNegativeAppendsNothing(t *testing.T) {
	for _, n := range []int{-1, -2, -300, math.MinInt} {
		for _, b := range [][]byte{nil, {}, {7}, {7, 8, 9}} {
			if got := PutLen(b, n); !bytes.Equal(got, b) {
				t.Errorf("PutLen of %v, %d: %v", b, n, got)
			}
		}
	}
}

// puts are all calls that append, for numbers with few and with many digits.
func puts() []func([]byte) []byte {
	var l []func([]byte) []byte
	for _, n := range []int{0, 1, 64, 300, math.MaxInt, -1, math.MinInt} {
		l = append(l, func(b []byte) []byte { return Put(b, n) })
		l = append(l, func(b []byte) []byte { return PutLen(b, n) })
	}
	return l
}

func TestArgumentIsNotModified(t *testing.T) {
	for i, put := range puts() {
		for length := range 4 {
			array := bytes.Repeat([]byte{77}, 40)
			put(array[:length])
			if !bytes.Equal(array, bytes.Repeat([]byte{77}, 40)) {
				t.Errorf("call %d with %d of 40 bytes changed the array to %v", i, length, array)
			}
		}
	}
}

func TestResultSharesNothingWithArgument(t *testing.T) {
	for i, put := range puts() {
		for length := range 4 {
			array := bytes.Repeat([]byte{77}, 40)
			out := put(array[:length])
			was := bytes.Clone(out)
			for k := range array {
				array[k] = 55
			}
			if !bytes.Equal(out, was) {
				t.Errorf("call %d: a change of the argument changed the result to %v", i, out)
			}
			out = out[:cap(out)]
			for k := range out {
				out[k] = 33
			}
			if !bytes.Equal(array, bytes.Repeat([]byte{55}, 40)) {
				t.Errorf("call %d: a change of the result changed the argument to %v", i, array)
			}
		}
	}
}

func TestTwoResultsOfOnePrefixAreApart(t *testing.T) {
	prefix := make([]byte, 1, 40)
	a, b := Put(prefix, 1), Put(prefix, -1)
	if !bytes.Equal(a, []byte{0, 2}) || !bytes.Equal(b, []byte{0, 1}) {
		t.Errorf("%v and %v", a, b)
	}
}

func TestGetErrors(t *testing.T) {
	for _, c := range []struct {
		name string
		b    []byte
		e    api.Errno
	}{
		{"nil", nil, api.ErrShort},
		{"empty", []byte{}, api.ErrShort},
		{"one digit, not the last", []byte{128}, api.ErrShort},
		{"nine digits, none the last", full(9, 255), api.ErrShort},
		{"nine digits of 0, none the last", full(9, 128), api.ErrShort},
		{"last digit 0 of two", []byte{128, 0}, api.ErrForm},
		{"last digit 0 of two, more bytes", []byte{255, 0, 1}, api.ErrForm},
		{"last digit 0 of nine", full(8, 128, 0), api.ErrForm},
		{"last digit 0 of ten", full(9, 255, 0), api.ErrForm},
		{"tenth digit 2", full(9, 255, 2), api.ErrForm},
		{"tenth digit 127", full(9, 128, 127), api.ErrForm},
		{"tenth digit 0, not the last, nothing follows", full(9, 128, 128), api.ErrForm},
		{"tenth digit 1, not the last, nothing follows", full(9, 255, 129), api.ErrForm},
		{"tenth digit 1, not the last, a last one follows", full(9, 255, 129, 0), api.ErrForm},
		{"digits without end", full(50, 255), api.ErrForm},
	} {
		if n, k, e := Get(c.b); n != 0 || k != 0 || e != c.e {
			t.Errorf("Get, %s: %d %d %d", c.name, n, k, e)
		}
		if n, k, e := GetLen(c.b); n != 0 || k != 0 || e != c.e {
			t.Errorf("GetLen, %s: %d %d %d", c.name, n, k, e)
		}
	}
}

func TestGetOfTenDigits(t *testing.T) {
	for _, c := range []struct {
		b []byte
		n int
	}{
		{full(9, 255, 1), math.MinInt},
		{append([]byte{254}, full(8, 255, 1)...), math.MaxInt},
		{full(9, 128, 1), 1 << 62},
		{append([]byte{129}, full(8, 128, 1)...), -1<<62 - 1},
	} {
		if n, k, e := Get(c.b); n != c.n || k != 10 || e != api.OK {
			t.Errorf("Get of %v: %d %d %d", c.b, n, k, e)
		}
	}
}

func TestGetLenRefusesWhatIsTooGreat(t *testing.T) {
	for _, b := range [][]byte{full(9, 128, 1), full(9, 255, 1), append([]byte{129}, full(8, 128, 1)...)} {
		if n, k, e := GetLen(b); n != 0 || k != 0 || e != api.ErrForm {
			t.Errorf("GetLen of %v: %d %d %d", b, n, k, e)
		}
	}
	if n, k, e := GetLen(full(8, 255, 127)); n != math.MaxInt || k != 9 || e != api.OK {
		t.Errorf("GetLen of the greatest number: %d %d %d", n, k, e)
	}
}

func TestGetStopsAtTheLastDigit(t *testing.T) {
	for _, c := range []struct {
		b         []byte
		n, length int
		k         int
	}{
		{[]byte{0, 0}, 0, 0, 1}, {[]byte{0, 128}, 0, 0, 1}, {[]byte{2, 255, 255}, 1, 2, 1},
		{[]byte{172, 2, 0}, 150, 300, 2}, {[]byte{1, 1, 1}, -1, 1, 1},
	} {
		if n, k, e := Get(c.b); n != c.n || k != c.k || e != api.OK {
			t.Errorf("Get of %v: %d %d %d", c.b, n, k, e)
		}
		if n, k, e := GetLen(c.b); n != c.length || k != c.k || e != api.OK {
			t.Errorf("GetLen of %v: %d %d %d", c.b, n, k, e)
		}
	}
}

func TestGetDoesNotModifyItsArgument(t *testing.T) {
	for _, b := range [][]byte{{172, 2, 5}, {128}, {128, 0}, full(9, 255, 1), full(9, 255, 2)} {
		was := bytes.Clone(b)
		Get(b)
		GetLen(b)
		if !bytes.Equal(b, was) {
			t.Errorf("%v became %v", was, b)
		}
	}
}

func TestDecodedIsWhatWasEncoded(t *testing.T) {
	for _, n := range samples() {
		b := Put(nil, n)
		if m, k, e := Get(append(b, 255)); m != n || k != len(b) || e != api.OK {
			t.Errorf("Get of Put of %d: %d %d %d", n, m, k, e)
		}
		for cut := range b {
			if m, k, e := Get(b[:cut]); m != 0 || k != 0 || e != api.ErrShort {
				t.Errorf("Get of %d of the digits of %d: %d %d %d", cut, n, m, k, e)
			}
		}
		if n < 0 {
			continue
		}
		b = PutLen(nil, n)
		if m, k, e := GetLen(append(b, 255)); m != n || k != len(b) || e != api.OK {
			t.Errorf("GetLen of PutLen of %d: %d %d %d", n, m, k, e)
		}
	}
}

// checkBytes holds what is decoded from b, if it is anything, against its encoding.
func checkBytes(t *testing.T, b []byte) {
	if n, k, e := Get(b); e == api.OK {
		if !bytes.Equal(Put(nil, n), b[:k]) || Size(n) != k {
			t.Errorf("Get of %v: %d of %d digits, encoded as %v", b, n, k, Put(nil, n))
		}
	} else if n != 0 || k != 0 || e != api.ErrShort && e != api.ErrForm {
		t.Errorf("Get of %v: %d %d %d", b, n, k, e)
	}
	if n, k, e := GetLen(b); e == api.OK {
		if n < 0 || !bytes.Equal(PutLen(nil, n), b[:k]) {
			t.Errorf("GetLen of %v: %d of %d digits, encoded as %v", b, n, k, PutLen(nil, n))
		}
	} else if n != 0 || k != 0 || e != api.ErrShort && e != api.ErrForm {
		t.Errorf("GetLen of %v: %d %d %d", b, n, k, e)
	}
}

func TestEncodedIsWhatWasDecoded(t *testing.T) {
	for a := range 256 {
		checkBytes(t, []byte{byte(a)})
		for b := range 256 {
			checkBytes(t, []byte{byte(a), byte(b)})
			checkBytes(t, full(8, 255, byte(a), byte(b)))
			checkBytes(t, full(7, 128, byte(a), byte(b), 1))
		}
	}
}

func FuzzGet(f *testing.F) {
	for _, b := range [][]byte{nil, {0}, {128, 0}, {172, 2}, full(9, 255, 1), full(9, 255, 2), full(12, 128)} {
		f.Add(b)
	}
	f.Fuzz(checkBytes)
}

package bits

import (
	"bytes"
	"math"
	"math/big"
	"slices"
	"testing"

	"winnower/api"
)

// packWant follows the chapter's definition with one big number: the number at place i
// counts 2^(i * width), and the bytes are that number's, least significant byte first.
func packWant(l []int, width int) []byte {
	all := new(big.Int)
	for i, n := range l {
		all.Add(all, new(big.Int).Lsh(big.NewInt(int64(n)), uint(i*width)))
	}
	size := len(l) * width / 8
	if len(l)*width%8 != 0 {
		size++
	}
	b := all.FillBytes(make([]byte, size))
	slices.Reverse(b)
	return b
}

// numbers are n numbers of the given width, the least and the greatest one among them.
func numbers(n, width int) []int {
	l := make([]int, n)
	x := uint64(n*100 + width + 1)
	for i := range l {
		x = x*6364136223846793005 + 1442695040888963407
		switch most := 1<<width - 1; i % 5 {
		case 1:
			l[i] = most
		case 3:
			l[i] = 0
		default:
			l[i] = int(x>>2) & most
		}
	}
	return l
}

// counts are lengths of lists: none, and those around whole bytes and words.
func counts() []int {
	return []int{0, 1, 2, 3, 7, 8, 9, 16, 63, 64, 65, 100}
}

func TestWidth(t *testing.T) {
	for _, c := range []struct{ most, width int }{
		{math.MinInt, 0}, {-1 << 62, 0}, {-5, 0}, {-1, 0}, {0, 0},
		{1, 1}, {2, 2}, {3, 2}, {4, 3}, {7, 3}, {8, 4}, {255, 8}, {256, 9}, {4095, 12}, {4096, 13},
		{1<<62 - 1, 62}, {1 << 62, 63}, {math.MaxInt, 63},
	} {
		if w := Width(c.most); w != c.width {
			t.Errorf("Width of %d: %d, not %d", c.most, w, c.width)
		}
	}
}

func TestWidthIsTheSmallestThatSuffices(t *testing.T) {
	for s := range 63 {
		for _, most := range []int{1<<s - 1, 1 << s, 1<<s + 1, 1<<s + 1<<s/2} {
			m, w := big.NewInt(int64(most)), Width(most)
			if m.Cmp(new(big.Int).Lsh(big.NewInt(1), uint(w))) >= 0 {
				t.Errorf("Width of %d: %d is too small", most, w)
			}
			if w > 0 && m.Cmp(new(big.Int).Lsh(big.NewInt(1), uint(w-1))) < 0 {
				t.Errorf("Width of %d: %d is too great", most, w)
			}
		}
	}
}

func TestPackExamples(t *testing.T) {
	for _, c := range []struct {
		l     []int
		width int
		b     []byte
	}{
		{[]int{1, 2, 3}, 3, []byte{209, 0}},
		{nil, 0, nil}, {nil, 5, nil}, {nil, 62, nil}, {[]int{0, 0, 0}, 0, nil},
		{[]int{1}, 1, []byte{1}}, {[]int{0}, 1, []byte{0}},
		{[]int{0, 1}, 1, []byte{2}},
		{[]int{1, 0, 0, 0, 0, 0, 0, 1}, 1, []byte{129}},
		{[]int{1, 0, 0, 0, 0, 0, 0, 1, 1}, 1, []byte{129, 1}},
		{[]int{5, 255, 0}, 8, []byte{5, 255, 0}},
		{[]int{258}, 9, []byte{2, 1}},
		{[]int{511}, 9, []byte{255, 1}},
		{[]int{1<<62 - 1}, 62, []byte{255, 255, 255, 255, 255, 255, 255, 63}},
		{[]int{0, 1}, 62, []byte{0, 0, 0, 0, 0, 0, 0, 64, 0, 0, 0, 0, 0, 0, 0, 0}},
	} {
		b, e := Pack(c.l, c.width)
		if e != api.OK || !bytes.Equal(b, c.b) {
			t.Errorf("Pack of %v, width %d: %v, %d, not %v", c.l, c.width, b, e, c.b)
		}
		l, e := Unpack(c.b, len(c.l), c.width)
		if e != api.OK || !slices.Equal(l, c.l) {
			t.Errorf("Unpack of %v, width %d: %v, %d, not %v", c.b, c.width, l, e, c.l)
		}
	}
}

func TestPackErrorsInTheirOrder(t *testing.T) {
	long, wrong := make([]int, api.MaxBlock+1), make([]int, api.MaxBlock+1)
	wrong[0] = -1
	for _, c := range []struct {
		name  string
		l     []int
		width int
		e     api.Errno
	}{
		{"width -1", []int{0}, -1, api.ErrArg},
		{"width 63", []int{0}, 63, api.ErrArg},
		{"width 64", nil, 64, api.ErrArg},
		{"least width", nil, math.MinInt, api.ErrArg},
		{"greatest width", nil, math.MaxInt, api.ErrArg},
		{"a bad width ahead of too many", long, 63, api.ErrArg},
		{"too many", long, 1, api.ErrLong},
		{"too many of width 0", long, 0, api.ErrLong},
		{"too many ahead of a bad number", wrong, 3, api.ErrLong},
		{"a negative number", []int{1, -1}, 3, api.ErrArg},
		{"the least number", []int{math.MinInt}, 62, api.ErrArg},
		{"a number of one bit more", []int{7, 8, 0}, 3, api.ErrArg},
		{"a number of width 0", []int{0, 1}, 0, api.ErrArg},
		{"a negative number of width 0", []int{-1}, 0, api.ErrArg},
		{"2^62", []int{1 << 62}, 62, api.ErrArg},
		{"the greatest number", []int{0, math.MaxInt}, 62, api.ErrArg},
	} {
		if b, e := Pack(c.l, c.width); e != c.e || len(b) != 0 {
			t.Errorf("%s: Pack: %v, %d, not %d", c.name, b, e, c.e)
		}
	}
}

func TestUnpackErrorsInTheirOrder(t *testing.T) {
	many := make([]byte, api.MaxBlock*api.MaxWidth)
	for _, c := range []struct {
		name     string
		b        []byte
		n, width int
		e        api.Errno
	}{
		{"width -1", nil, 0, -1, api.ErrArg},
		{"width 63", many, 1, 63, api.ErrArg},
		{"least width", nil, 1, math.MinInt, api.ErrArg},
		{"greatest width", nil, 1, math.MaxInt, api.ErrArg},
		{"a bad width ahead of too many", nil, api.MaxBlock + 1, 63, api.ErrArg},
		{"a negative count", nil, -1, 3, api.ErrArg},
		{"a negative count of width 0", nil, -1, 0, api.ErrArg},
		{"the least count", []byte{1}, math.MinInt, 2, api.ErrArg},
		{"too many", many, api.MaxBlock + 1, 8, api.ErrLong},
		{"too many of width 0", nil, api.MaxBlock + 1, 0, api.ErrLong},
		{"too many ahead of too few bytes", nil, api.MaxBlock + 1, 1, api.ErrLong},
		{"the greatest count", nil, math.MaxInt, 62, api.ErrLong},
		{"no byte", nil, 1, 1, api.ErrShort},
		{"one bit too few", []byte{209}, 3, 3, api.ErrShort},
		{"a byte too few", []byte{1, 2, 3}, 4, 8, api.ErrShort},
		{"too few bytes ahead of a padding bit", []byte{255}, 9, 1, api.ErrShort},
		{"a byte too many", []byte{209, 0, 0}, 3, 3, api.ErrForm},
		{"a byte for nothing", []byte{0}, 0, 7, api.ErrForm},
		{"a byte for width 0", []byte{0}, 5, 0, api.ErrForm},
		{"the lowest padding bit", []byte{209, 2}, 3, 3, api.ErrForm},
		{"the highest padding bit", []byte{209, 128}, 3, 3, api.ErrForm},
		{"all padding bits", []byte{255}, 1, 1, api.ErrForm},
		{"a whole byte follows", []byte{5, 0}, 1, 8, api.ErrForm},
	} {
		if l, e := Unpack(c.b, c.n, c.width); e != c.e || len(l) != 0 {
			t.Errorf("%s: Unpack: %v, %d, not %d", c.name, l, e, c.e)
		}
	}
}

func TestUnpackRefusesEveryPaddingBit(t *testing.T) {
	for width := range api.MaxWidth + 1 {
		for _, n := range counts() {
			b := packWant(numbers(n, width), width)
			for bit := n * width; bit < len(b)*8; bit++ {
				bad := bytes.Clone(b)
				bad[bit/8] |= 1 << (bit % 8)
				if l, e := Unpack(bad, n, width); e != api.ErrForm || len(l) != 0 {
					t.Errorf("%d numbers of width %d, padding bit %d: %v, %d", n, width, bit, l, e)
				}
			}
		}
	}
}

func TestUnpackWithWidthZeroYieldsZeros(t *testing.T) {
	for _, n := range []int{0, 1, 7, api.MaxBlock} {
		l, e := Unpack(nil, n, 0)
		if e != api.OK || !slices.Equal(l, make([]int, n)) {
			t.Errorf("%d numbers of width 0: %v, %d", n, l, e)
		}
	}
}

func TestPackUnpackAndAtFollowTheDefinition(t *testing.T) {
	for width := range api.MaxWidth + 1 {
		for _, n := range append(counts(), api.MaxBlock) {
			checkPacked(t, numbers(n, width), width)
		}
	}
}

func checkPacked(t *testing.T, l []int, width int) {
	t.Helper()
	want := packWant(l, width)
	b, e := Pack(l, width)
	if e != api.OK || !bytes.Equal(b, want) {
		t.Fatalf("Pack of %d numbers of width %d: error %d, or other bytes", len(l), width, e)
	}
	got, e := Unpack(want, len(l), width)
	if e != api.OK || !slices.Equal(got, l) {
		t.Fatalf("Unpack of %d numbers of width %d: error %d, or other numbers", len(l), width, e)
	}
	for i, n := range l {
		if at := At(want, i, width); at != n {
			t.Fatalf("At of %d, width %d: %d, not %d", i, width, at, n)
		}
	}
}

func TestAt(t *testing.T) {
	b := []byte{209, 0}
	for _, c := range []struct {
		b           []byte
		i, width, n int
	}{
		{b, 0, 3, 1}, {b, 1, 3, 2}, {b, 2, 3, 3}, {b, 3, 3, 0}, {b, 4, 3, 0},
		{b, 0, 8, 209}, {b, 1, 8, 0}, {b, 2, 8, 0}, {b, 0, 16, 209}, {b, 0, 17, 0},
		{[]byte{255, 255}, 4, 3, 7}, {[]byte{255, 255}, 5, 3, 0}, {[]byte{255, 255}, 15, 1, 1}, {[]byte{255, 255}, 16, 1, 0},
		{[]byte{255, 255}, 0, 15, 1<<15 - 1}, {[]byte{255, 255}, 1, 15, 0}, {[]byte{255, 255}, 0, 17, 0},
		{bytes.Repeat([]byte{255}, 8), 0, 62, 1<<62 - 1}, {bytes.Repeat([]byte{255}, 8), 1, 62, 0},
		{bytes.Repeat([]byte{255}, 7), 0, 62, 0},
		{nil, 0, 1, 0}, {nil, 1, 8, 0}, {[]byte{}, 0, 1, 0},
	} {
		if n := At(c.b, c.i, c.width); n != c.n {
			t.Errorf("At of %v, %d, width %d: %d, not %d", c.b, c.i, c.width, n, c.n)
		}
	}
}

func TestAtOfInvalidArgumentsIsZero(t *testing.T) {
	b := bytes.Repeat([]byte{255}, 100)
	for _, width := range []int{math.MinInt, -64, -8, -1, 0, 63, 64, 65, 800, math.MaxInt} {
		for _, i := range []int{math.MinInt, -1, 0, 1, 2, 1 << 40, math.MaxInt} {
			if n := At(b, i, width); n != 0 {
				t.Errorf("At of %d, width %d: %d", i, width, n)
			}
		}
	}
	// The products of the last ones wrap round to places that b has.
	for _, i := range []int{math.MinInt, -1 << 59, -2, -1, 1 << 40, 1<<40 + 1, 1 << 58, 1 << 59, 1<<59 + 1, 1 << 60, 1<<60 + 2, 1 << 62, math.MaxInt} {
		for width := 1; width <= api.MaxWidth; width++ {
			if n := At(b, i, width); n != 0 {
				t.Errorf("At of %d, width %d: %d", i, width, n)
			}
		}
	}
}

func TestPackingUnpackedNumbersYieldsTheSameBytes(t *testing.T) {
	x := uint64(3)
	for range 5000 {
		x = x*6364136223846793005 + 1442695040888963407
		b := make([]byte, x>>33%40)
		for i := range b {
			x = x*6364136223846793005 + 1442695040888963407
			b[i] = byte(x >> 56)
		}
		for _, width := range []int{1, 2, 3, 5, 7, 8, 9, 13, 31, 62} {
			n := len(b) * 8 / width
			l, e := Unpack(b, n, width)
			if e != api.OK {
				continue
			}
			if again, e := Pack(l, width); e != api.OK || !bytes.Equal(again, b) {
				t.Fatalf("Pack of Unpack of %v, width %d: %v, %d", b, width, again, e)
			}
		}
	}
}

func TestArgumentsAreNeitherChangedNorShared(t *testing.T) {
	l := []int{1, 2, 3}
	first, _ := Pack(l, 8)
	second, _ := Pack(l, 8)
	if !slices.Equal(l, []int{1, 2, 3}) {
		t.Errorf("Pack changes its argument to %v", l)
	}
	got, _ := Unpack(first, 3, 8)
	first[0], got[1], l[2] = 99, 99, 99
	At(second, 1, 8)
	if !bytes.Equal(second, []byte{1, 2, 3}) || !bytes.Equal(first, []byte{99, 2, 3}) || !slices.Equal(got, []int{1, 99, 3}) {
		t.Errorf("shared memory: %v, %v, %v", first, second, got)
	}
}

func FuzzUnpack(f *testing.F) {
	f.Add([]byte{209, 0}, 3, 3)
	f.Add([]byte(nil), 4096, 0)
	f.Add([]byte{255}, 8, 1)
	f.Fuzz(func(t *testing.T, b []byte, n, width int) {
		l, e := Unpack(b, n, width)
		if e != api.OK {
			if len(l) != 0 {
				t.Fatalf("numbers beside error %d", e)
			}
			return
		}
		if len(l) != n {
			t.Fatalf("%d numbers, not %d", len(l), n)
		}
		again, e := Pack(l, width)
		if e != api.OK || !bytes.Equal(again, b) {
			t.Fatalf("Pack of Unpack of %v, width %d: %v, %d", b, width, again, e)
		}
		for i, want := range l {
			if at := At(b, i, width); at != want {
				t.Fatalf("At of %d, width %d: %d, not %d", i, width, at, want)
			}
		}
	})
}

package runs

import (
	"bytes"
	"math"
	"math/big"
	"slices"
	"testing"

	"winnower/api"
	"winnower/num"
)

// runsWant follows the chapter's words: an element belongs to the last run or begins one.
func runsWant(l []int) []api.Run {
	var out []api.Run
	for _, n := range l {
		if last := len(out) - 1; last >= 0 && out[last].V == n {
			out[last].N++
		} else {
			out = append(out, api.Run{V: n, N: 1})
		}
	}
	return out
}

// deltaWant is a difference modulo 2^64 in big numbers, which cannot wrap round by themselves.
func deltaWant(n, before int) int {
	d := new(big.Int).Sub(big.NewInt(int64(n)), big.NewInt(int64(before)))
	half, whole := new(big.Int).Lsh(big.NewInt(1), 63), new(big.Int).Lsh(big.NewInt(1), 64)
	d.Mod(d.Add(d, half), whole)
	return int(d.Sub(d, half).Int64())
}

func deltasWant(l []int) []int {
	var out []int
	for i, n := range l {
		if i > 0 {
			n = deltaWant(n, l[i-1])
		}
		out = append(out, n)
	}
	return out
}

// blocks are the blocks of l, one for each kind, by the chapter's definition.
func blocks(l []int) [3][]byte {
	var out [3][]byte
	for kind := range out {
		out[kind] = num.PutLen([]byte{byte(kind)}, len(l))
	}
	for _, n := range l {
		out[0] = append(out[0], num.Put(nil, n)...)
	}
	for _, r := range runsWant(l) {
		out[1] = append(out[1], num.Put(nil, r.V)...)
		out[1] = append(out[1], num.PutLen(nil, r.N)...)
	}
	for _, n := range deltasWant(l) {
		out[2] = append(out[2], num.Put(nil, n)...)
	}
	return out
}

// kindWant is the first kind of which no other one has a shorter block.
func kindWant(all [3][]byte) int {
	least := min(len(all[0]), len(all[1]), len(all[2]))
	return slices.IndexFunc(all[:], func(b []byte) bool { return len(b) == least })
}

// shortLists are all lists of at most four of some integers, among which are those
// whose differences overflow and those whose encodings have different lengths.
func shortLists() [][]int {
	some := []int{0, 1, -1, 64, 65, 8192, math.MaxInt, math.MinInt}
	out := [][]int{nil}
	for from := 0; len(out[from]) < 4; from++ {
		for _, n := range some {
			out = append(out, append(slices.Clone(out[from]), n))
		}
	}
	return out
}

// longLists are lists of many lengths, up to the greatest one, that favour each of the kinds.
func longLists() [][]int {
	var out [][]int
	x := uint64(7)
	next := func() int {
		x = x*6364136223846793005 + 1442695040888963407
		return int(x)
	}
	for _, n := range []int{1, 5, 63, 64, 127, 128, 129, 1000, api.MaxBlock - 1, api.MaxBlock} {
		mixed, same, rising, steps := make([]int, n), make([]int, n), make([]int, n), make([]int, n)
		value, size := next(), 1+int(uint64(next())%50)
		for i := range n {
			mixed[i] = next() >> (uint(next()) % 64)
			same[i] = value
			rising[i] = value + i*3
			steps[i] = value >> 40 * (i / size)
		}
		out = append(out, mixed, same, rising, steps)
	}
	return out
}

// digits are so many digits that are not the last one, and then the bytes of end.
func digits(n int, end ...byte) []byte {
	return append(bytes.Repeat([]byte{255}, n), end...)
}

func TestRunsExamples(t *testing.T) {
	for _, c := range []struct {
		l []int
		r []api.Run
	}{
		{nil, nil},
		{[]int{}, nil},
		{[]int{0}, []api.Run{{V: 0, N: 1}}},
		{[]int{7, 7, 7}, []api.Run{{V: 7, N: 3}}},
		{[]int{5, 6, 7}, []api.Run{{V: 5, N: 1}, {V: 6, N: 1}, {V: 7, N: 1}}},
		{[]int{1, 1, 2, 1, 1, 1}, []api.Run{{V: 1, N: 2}, {V: 2, N: 1}, {V: 1, N: 3}}},
		{[]int{0, 0, -1, -1, math.MinInt, math.MaxInt, math.MaxInt}, []api.Run{{V: 0, N: 2}, {V: -1, N: 2}, {V: math.MinInt, N: 1}, {V: math.MaxInt, N: 2}}},
	} {
		if r := Runs(c.l); !slices.Equal(r, c.r) {
			t.Errorf("Runs of %v: %v, not %v", c.l, r, c.r)
		}
		if l, e := Flat(c.r); e != api.OK || !slices.Equal(l, c.l) {
			t.Errorf("Flat of %v: %v, %d, not %v", c.r, l, e, c.l)
		}
	}
}

func TestRunsHasNoLimit(t *testing.T) {
	l := make([]int, 3*api.MaxBlock)
	l[len(l)-1] = 4
	want := []api.Run{{V: 0, N: len(l) - 1}, {V: 4, N: 1}}
	if r := Runs(l); !slices.Equal(r, want) {
		t.Errorf("Runs: %v, not %v", r, want)
	}
}

func TestFlatTakesRunsThatAreNotMaximal(t *testing.T) {
	l, e := Flat([]api.Run{{V: 3, N: 1}, {V: 3, N: 2}, {V: 4, N: 1}, {V: 3, N: 1}})
	if e != api.OK || !slices.Equal(l, []int{3, 3, 3, 4, 3}) {
		t.Errorf("Flat: %v, %d", l, e)
	}
}

func TestFlatErrorsInTheirOrder(t *testing.T) {
	const most = api.MaxBlock
	for _, c := range []struct {
		name string
		r    []api.Run
		n    int
		e    api.Errno
	}{
		{"nothing", nil, 0, api.OK},
		{"as many as may be", []api.Run{{V: 1, N: most}}, most, api.OK},
		{"as many as may be in two runs", []api.Run{{V: 1, N: most - 1}, {V: 2, N: 1}}, most, api.OK},
		{"none", []api.Run{{V: 1, N: 0}}, 0, api.ErrArg},
		{"less than none", []api.Run{{V: 1, N: -1}}, 0, api.ErrArg},
		{"the least length", []api.Run{{V: 1, N: math.MinInt}}, 0, api.ErrArg},
		{"none at the end", []api.Run{{V: 1, N: 2}, {V: 2, N: 0}}, 0, api.ErrArg},
		{"one too many", []api.Run{{V: 1, N: most + 1}}, 0, api.ErrLong},
		{"one too many in two runs", []api.Run{{V: 1, N: most}, {V: 2, N: 1}}, 0, api.ErrLong},
		{"the greatest length", []api.Run{{V: 1, N: math.MaxInt}}, 0, api.ErrLong},
		{"lengths whose sum overflows", []api.Run{{V: 1, N: 1}, {V: 2, N: math.MaxInt}}, 0, api.ErrLong},
		{"too many, then none", []api.Run{{V: 1, N: most}, {V: 1, N: 1}, {V: 1, N: 0}}, 0, api.ErrLong},
		{"none, then too many", []api.Run{{V: 1, N: most}, {V: 1, N: 0}, {V: 1, N: 1}}, 0, api.ErrArg},
		{"a negative length takes nothing back", []api.Run{{V: 1, N: most}, {V: 1, N: -5}, {V: 1, N: 5}}, 0, api.ErrArg},
	} {
		if l, e := Flat(c.r); e != c.e || len(l) != c.n {
			t.Errorf("%s: Flat: %d elements, %d, not %d, %d", c.name, len(l), e, c.n, c.e)
		}
	}
}

func TestRunsAndFlatFollowTheDefinition(t *testing.T) {
	for _, l := range append(shortLists(), longLists()...) {
		r := Runs(l)
		if !slices.Equal(r, runsWant(l)) {
			t.Fatalf("Runs of %v: %v", l, r)
		}
		if back, e := Flat(r); e != api.OK || !slices.Equal(back, l) {
			t.Fatalf("Flat of Runs of %v: %v, %d", l, back, e)
		}
	}
}

func TestDeltasExamples(t *testing.T) {
	for _, c := range []struct{ l, d []int }{
		{nil, nil},
		{[]int{}, nil},
		{[]int{5}, []int{5}},
		{[]int{-5}, []int{-5}},
		{[]int{5, 6, 4, 4}, []int{5, 1, -2, 0}},
		{[]int{math.MaxInt, math.MinInt}, []int{math.MaxInt, 1}},
		{[]int{math.MinInt, math.MaxInt}, []int{math.MinInt, -1}},
		{[]int{0, math.MinInt, 0}, []int{0, math.MinInt, math.MinInt}},
		{[]int{-1, math.MaxInt, -1}, []int{-1, math.MinInt, math.MinInt}},
		{[]int{1, math.MinInt}, []int{1, math.MaxInt}},
		{[]int{-2, math.MaxInt}, []int{-2, math.MinInt + 1}},
		{[]int{math.MinInt}, []int{math.MinInt}},
	} {
		if d := Deltas(c.l); !slices.Equal(d, c.d) {
			t.Errorf("Deltas of %v: %v, not %v", c.l, d, c.d)
		}
		if l := Sums(c.d); !slices.Equal(l, c.l) {
			t.Errorf("Sums of %v: %v, not %v", c.d, l, c.l)
		}
	}
}

func TestDeltasAndSumsFollowTheDefinition(t *testing.T) {
	lists := append(shortLists(), longLists()...)
	beyond := make([]int, 2*api.MaxBlock)
	for i := range beyond {
		beyond[i] = i * i
	}
	for _, l := range append(lists, beyond) {
		if d := Deltas(l); !slices.Equal(d, deltasWant(l)) {
			t.Fatalf("Deltas of %v: %v", l, d)
		}
		if back := Sums(deltasWant(l)); !slices.Equal(back, l) {
			t.Fatalf("Sums of the Deltas of %v: %v", l, back)
		}
		if again := Deltas(Sums(l)); !slices.Equal(again, l) {
			t.Fatalf("Deltas of Sums of %v: %v", l, again)
		}
	}
}

func TestEncodeExamples(t *testing.T) {
	for _, c := range []struct {
		name string
		l    []int
		b    []byte
	}{
		{"no integers", nil, []byte{0, 0}},
		{"one", []int{0}, []byte{0, 1, 0}},
		{"runs", []int{7, 7, 7}, []byte{1, 3, 14, 3}},
		{"plain as long as deltas", []int{5, 6, 7}, []byte{0, 3, 10, 12, 14}},
		{"all kinds of one length", []int{7, 7}, []byte{0, 2, 14, 14}},
		{"plain as long as runs", []int{5, 5, -64, -64}, []byte{0, 4, 10, 10, 127, 127}},
		{"runs as long as deltas", []int{64, 64}, []byte{1, 2, 128, 1, 2}},
		{"deltas", []int{64, 65, 66}, []byte{2, 3, 128, 1, 2, 2}},
		{"deltas that wrap round", []int{math.MaxInt, math.MinInt}, append(append([]byte{2, 2, 254}, digits(8, 1)...), 2)},
		{"deltas that wrap round downwards", []int{math.MinInt, math.MaxInt}, append([]byte{2, 2}, digits(9, 1, 1)...)},
		{"a run of the greatest number", []int{math.MaxInt, math.MaxInt, math.MaxInt}, append([]byte{1, 3, 254}, digits(8, 1, 3)...)},
		{"a long run", make([]int, 300), []byte{1, 172, 2, 0, 172, 2}},
		{"the longest run", make([]int, api.MaxBlock), []byte{1, 128, 32, 0, 128, 32}},
	} {
		if b, e := Encode(c.l); e != api.OK || !bytes.Equal(b, c.b) {
			t.Errorf("%s: Encode: %v, %d, not %v", c.name, b, e, c.b)
		}
		if l, size, e := Decode(c.b); e != api.OK || size != len(c.b) || !slices.Equal(l, c.l) {
			t.Errorf("%s: Decode: %v, %d, %d", c.name, l, size, e)
		}
	}
}

func TestEncodeOfTooMany(t *testing.T) {
	for _, n := range []int{api.MaxBlock + 1, 3 * api.MaxBlock} {
		if b, e := Encode(make([]int, n)); e != api.ErrLong || len(b) != 0 {
			t.Errorf("Encode of %d integers: %v, %d", n, b, e)
		}
	}
}

func TestEncodeChoosesTheShortestBlockOfTheSmallestKind(t *testing.T) {
	var chosen [3]int
	for _, l := range append(shortLists(), longLists()...) {
		all := blocks(l)
		kind := kindWant(all)
		chosen[kind]++
		b, e := Encode(l)
		if e != api.OK || !bytes.Equal(b, all[kind]) {
			t.Fatalf("Encode of %v: %v, %d, not %v", l, b, e, all[kind])
		}
		if len(b) > len(all[0]) {
			t.Fatalf("Encode of %v: %d bytes, %d plain", l, len(b), len(all[0]))
		}
	}
	if slices.Contains(chosen[:], 0) {
		t.Errorf("a kind is not tested: %v", chosen)
	}
}

func TestDecodeTakesNoOtherBlock(t *testing.T) {
	for _, l := range append(shortLists(), longLists()...) {
		all := blocks(l)
		kind := kindWant(all)
		for k, b := range all {
			got, size, e := Decode(b)
			if k != kind && (e != api.ErrForm || size != 0 || len(got) != 0) {
				t.Fatalf("Decode of %v, kind %d of %v: %v, %d, %d", b, k, l, got, size, e)
			}
			if k == kind && (e != api.OK || size != len(b) || !slices.Equal(got, l)) {
				t.Fatalf("Decode of the block of %v: %v, %d, %d", l, got, size, e)
			}
		}
	}
}

func TestDecodeWhateverFollows(t *testing.T) {
	for _, l := range append(shortLists(), longLists()...) {
		b, _ := Encode(l)
		for _, after := range [][]byte{{0}, {255}, {128, 0}, {1, 3, 14, 3}, b, digits(20)} {
			got, size, e := Decode(append(bytes.Clone(b), after...))
			if e != api.OK || size != len(b) || !slices.Equal(got, l) {
				t.Fatalf("Decode of the block of %v, followed by %v: %v, %d, %d", l, after, got, size, e)
			}
		}
	}
}

func TestDecodeOfBlocksThatEndTooSoon(t *testing.T) {
	for _, l := range shortLists() {
		// The other kinds too: what is wrong with them shows at their end only.
		for _, b := range blocks(l) {
			for n := range b {
				if got, size, e := Decode(b[:n]); e != api.ErrShort || size != 0 || len(got) != 0 {
					t.Fatalf("Decode of %v, %d bytes: %v, %d, %d", b, n, got, size, e)
				}
			}
		}
	}
}

func TestDecodeErrorsInTheirOrder(t *testing.T) {
	for _, c := range []struct {
		name string
		b    []byte
		e    api.Errno
	}{
		{"nil", nil, api.ErrShort},
		{"no byte", []byte{}, api.ErrShort},
		{"a kind too great", []byte{3}, api.ErrForm},
		{"a kind too great of a whole block", []byte{3, 1, 0}, api.ErrForm},
		{"a kind is one byte", []byte{128, 0}, api.ErrForm},
		{"the greatest kind", []byte{255, 255}, api.ErrForm},
		{"no number", []byte{0}, api.ErrShort},
		{"half a number", []byte{1, 128}, api.ErrShort},
		{"a number with a last digit 0", []byte{0, 129, 0}, api.ErrForm},
		{"a number of 2^63", append([]byte{0}, 128, 128, 128, 128, 128, 128, 128, 128, 128, 1), api.ErrForm},
		{"a number with a tenth digit 2", append([]byte{0}, digits(9, 2)...), api.ErrForm},
		{"nine digits", append([]byte{2}, digits(9)...), api.ErrShort},
		{"a number of 2^63 - 1", append([]byte{0}, digits(8, 127)...), api.ErrLong},
		{"4097 ahead of what is missing", []byte{0, 129, 32}, api.ErrLong},
		{"4097 in one run", []byte{1, 129, 32, 0, 129, 32}, api.ErrLong},
		{"4097 deltas", append([]byte{2, 129, 32}, make([]byte, 4097)...), api.ErrLong},
		{"4096 that are missing", []byte{0, 128, 32}, api.ErrShort},

		{"an integer with a last digit 0", []byte{0, 1, 128, 0}, api.ErrForm},
		{"the same ahead of one that is missing", []byte{0, 2, 128, 0}, api.ErrForm},
		{"an integer with a tenth digit 2", append([]byte{0, 1}, digits(9, 2)...), api.ErrForm},
		{"an integer with ten digits that go on", append([]byte{0, 1}, digits(10)...), api.ErrForm},
		{"the second is missing", []byte{0, 2, 4}, api.ErrShort},
		{"the fifth equal one is missing", []byte{0, 5, 14, 14, 14, 14}, api.ErrShort},
		{"plain where runs are shorter", []byte{0, 3, 14, 14, 14}, api.ErrForm},
		{"plain where deltas are shorter", []byte{0, 3, 128, 1, 130, 1, 132, 1}, api.ErrForm},

		{"a run without a length", []byte{1, 3, 14}, api.ErrShort},
		{"a run with half a value", []byte{1, 3, 128}, api.ErrShort},
		{"a run with half a length", []byte{1, 3, 14, 131}, api.ErrShort},
		{"a run's value with a last digit 0", []byte{1, 3, 142, 0, 3}, api.ErrForm},
		{"a run's length with a last digit 0", []byte{1, 3, 14, 131, 0}, api.ErrForm},
		{"a run of none", []byte{1, 3, 14, 0}, api.ErrForm},
		{"a run of none ahead of a good one", []byte{1, 3, 12, 0, 14, 3}, api.ErrForm},
		{"a run of one too many", []byte{1, 3, 14, 4}, api.ErrForm},
		{"a second run of one too many", []byte{1, 3, 14, 2, 16, 2}, api.ErrForm},
		{"a run of 2^63 - 1", append([]byte{1, 3, 14}, digits(8, 127)...), api.ErrForm},
		{"a second run whose sum overflows", append([]byte{1, 3, 14, 1, 16}, digits(8, 127)...), api.ErrForm},
		{"a run of 2^63", append([]byte{1, 3, 14}, 128, 128, 128, 128, 128, 128, 128, 128, 128, 1), api.ErrForm},
		{"a run of 2^64 - 1", append([]byte{1, 3, 14}, digits(9, 1)...), api.ErrForm},
		{"the second run is missing", []byte{1, 3, 14, 2}, api.ErrShort},
		{"runs that are not maximal", []byte{1, 5, 14, 2, 14, 3}, api.ErrForm},
		{"runs where plain is shorter", []byte{1, 1, 14, 1}, api.ErrForm},
		{"runs where plain is as long", []byte{1, 2, 14, 2}, api.ErrForm},
		{"runs of no integers", []byte{1, 0}, api.ErrForm},

		{"a delta with a last digit 0", []byte{2, 1, 128, 0}, api.ErrForm},
		{"the second delta is missing", []byte{2, 2, 128, 1}, api.ErrShort},
		{"deltas where plain is as long", []byte{2, 3, 10, 2, 2}, api.ErrForm},
		{"deltas where runs are shorter", []byte{2, 3, 128, 1, 0, 0}, api.ErrForm},
		{"deltas where runs are as long", []byte{2, 2, 128, 1, 0}, api.ErrForm},
		{"deltas of no integers", []byte{2, 0}, api.ErrForm},
	} {
		if l, size, e := Decode(c.b); e != c.e || size != 0 || len(l) != 0 {
			t.Errorf("%s: Decode of %v: %v, %d, %d, not %d", c.name, c.b, l, size, e, c.e)
		}
	}
}

// Every string of a few of some bytes either begins with the block of a list or is
// refused, and what is read is one of the blocks of the model.
func TestDecodeOfAllStringsOfSomeBytes(t *testing.T) {
	some := []byte{0, 1, 2, 3, 14, 128, 255}
	work := [][]byte{nil}
	for from := 0; from < len(work); from++ {
		b := work[from]
		checkDecoded(t, b)
		if len(b) == 6 {
			continue
		}
		for _, c := range some {
			work = append(work, append(bytes.Clone(b), c))
		}
	}
}

func checkDecoded(t *testing.T, b []byte) {
	t.Helper()
	l, size, e := Decode(b)
	if e != api.OK {
		if len(l) != 0 || size != 0 {
			t.Fatalf("Decode of %v: %v, %d beside error %d", b, l, size, e)
		}
		if e != api.ErrShort && e != api.ErrForm && e != api.ErrLong {
			t.Fatalf("Decode of %v: error %d", b, e)
		}
		return
	}
	all := blocks(l)
	want := all[kindWant(all)]
	if len(l) > api.MaxBlock || size != len(want) || !bytes.HasPrefix(b, want) {
		t.Fatalf("Decode of %v: %v, %d, whose block is %v", b, l, size, want)
	}
}

func TestArgumentsAreNeitherChangedNorShared(t *testing.T) {
	want := []int{64, 65, 66}
	l := slices.Clone(want)
	r, d, s := Runs(l), Deltas(l), Sums(l)
	b, _ := Encode(l)
	if !slices.Equal(l, want) {
		t.Fatalf("changed to %v", l)
	}
	block := bytes.Clone(b)
	back, _, _ := Decode(b)
	flat, _ := Flat(r)
	if !bytes.Equal(b, block) {
		t.Fatalf("Decode changes its argument to %v", b)
	}
	l[0], d[1], s[2], back[0], flat[1], b[2] = 9, 9, 9, 9, 9, 9
	if !slices.Equal(l, []int{9, 65, 66}) || !slices.Equal(d, []int{64, 9, 1}) || !slices.Equal(s, []int{64, 129, 9}) ||
		!slices.Equal(back, []int{9, 65, 66}) || !slices.Equal(flat, []int{64, 9, 66}) || !slices.Equal(r, runsWant(want)) {
		t.Errorf("shared memory: %v, %v, %v, %v, %v, %v", l, d, s, back, flat, r)
	}
	if again, _ := Encode(want); !bytes.Equal(again, block) {
		t.Errorf("a later Encode: %v, not %v", again, block)
	}
}

func TestRunsEndWhenNoMoreAreWanted(t *testing.T) {
	seen := 0
	for range eachRun([]int{1, 1, 2, 3}) {
		if seen++; seen == 2 {
			break
		}
	}
	if seen != 2 {
		t.Errorf("%d runs", seen)
	}
}

func FuzzDecode(f *testing.F) {
	f.Add([]byte{1, 3, 14, 3})
	f.Add([]byte{0, 3, 10, 12, 14})
	f.Add([]byte{2, 3, 128, 1, 2, 2, 7})
	f.Fuzz(func(t *testing.T, b []byte) { checkDecoded(t, b) })
}

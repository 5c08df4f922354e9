package journal

import (
	"bytes"
	"math"
	"slices"
	"testing"

	"winnower/api"
)

// samples are valid entries: of each kind, in the middle of the ranges and at their ends.
func samples() []api.Entry {
	return []api.Entry{
		{Kind: 1, Part: 2, ID: 300, Start: 5000, End: 70000, Size: 900, Sum: 3421780262},
		{Kind: 1, Part: 0, ID: 1, Start: 0, End: 0, Size: 0, Sum: 0},
		{Kind: 1, Part: 3, ID: greatestID, Start: farthest, End: farthest, Size: greatestSize, Sum: greatestSum},
		{Kind: 1, Part: 1, ID: 2, Start: 0, End: farthest, Size: 1, Sum: 1},
		{Kind: 2, Part: 2, ID: 300},
		{Kind: 2, Part: 0, ID: 1},
		{Kind: 2, Part: 3, ID: greatestID},
		{Kind: 3, Part: 2, ID: 300, End: 70000},
		{Kind: 3, Part: 0, ID: 1, End: 0},
		{Kind: 3, Part: 3, ID: greatestID, End: farthest},
	}
}

// wantValid checks what is answered for an entry that is valid.
func wantValid(t testing.TB, x api.Entry) {
	t.Helper()
	b, e := Put(x)
	if want := modelPut(x); !May(x) || e != api.OK || !bytes.Equal(b, want) {
		t.Fatalf("%v: May %t, Put %v and error %d, not %v", x, May(x), b, e, want)
	}
	if got, e := Get(b); e != api.OK || got != x {
		t.Fatalf("Get of what Put returns for %v: %v, error %d", x, got, e)
	}
}

// wantNotValid checks what is answered for an entry that is not valid.
func wantNotValid(t testing.TB, x api.Entry) {
	t.Helper()
	if b, e := Put(x); May(x) || e != api.ErrArg || len(b) != 0 {
		t.Fatalf("%v: May %t, Put %v and error %d", x, May(x), b, e)
	}
	// Without the fields that the kind does not tell, these may be the bytes of another entry.
	if x == entryOf(spread(x.Kind, toldOf(x))) {
		wantNoEntry(t, modelPut(x))
	}
	wantNoEntry(t, varints(numbersOf(x)...))
}

// wantNoEntry checks that Get of b returns an error and nothing else.
func wantNoEntry(t testing.TB, b []byte) {
	t.Helper()
	if x, e := Get(b); e != api.ErrForm || x != (api.Entry{}) {
		t.Fatalf("Get of %v: %v and error %d", b, x, e)
	}
}

// wantModel checks that May, Put and Get answer what the model says of x.
func wantModel(t testing.TB, x api.Entry) {
	t.Helper()
	if modelMay(x) {
		wantValid(t, x)
	} else {
		wantNotValid(t, x)
	}
}

// wantGet checks that Get of b returns what the model does, and tells whether this is an entry.
func wantGet(t testing.TB, b []byte) bool {
	t.Helper()
	x, ok := modelGet(b)
	if !ok {
		wantNoEntry(t, b)
		return false
	}
	if got, e := Get(b); e != api.OK || got != x {
		t.Fatalf("Get of %v: %v, error %d, not %v", b, got, e, x)
	}
	if again, e := Put(x); e != api.OK || !bytes.Equal(again, b) {
		t.Fatalf("%v is read as %v, which is put as %v, error %d", b, x, again, e)
	}
	return true
}

func TestKinds(t *testing.T) {
	if api.Commit != 1 || api.Drop != 2 || api.Base != 3 || api.MaxParts != 4 || api.MaxID != greatestID || api.MaxOffset != farthest || api.MaxCap != greatestSize || api.MaxBlock != 4096 {
		t.Error("the tests have other limits than the program")
	}
}

func TestPut(t *testing.T) {
	for _, c := range []struct {
		x api.Entry
		b []byte
	}{
		{api.Entry{Kind: 1, Part: 2, ID: 300, Start: 0, End: 5, Size: 128, Sum: 7}, []byte{1, 2, 172, 2, 0, 5, 128, 1, 7}},
		{api.Entry{Kind: 1, Part: 3, ID: 1 << 30, Start: 1 << 40, End: 1 << 40, Size: 1 << 24, Sum: 1<<32 - 1},
			[]byte{1, 3, 128, 128, 128, 128, 4, 128, 128, 128, 128, 128, 32, 128, 128, 128, 128, 128, 32, 128, 128, 128, 8, 255, 255, 255, 255, 15}},
		{api.Entry{Kind: 1, ID: 1}, []byte{1, 0, 1, 0, 0, 0, 0}},
		{api.Entry{Kind: 2, Part: 1, ID: 127}, []byte{2, 1, 127}},
		{api.Entry{Kind: 2, Part: 0, ID: 1 << 30}, []byte{2, 0, 128, 128, 128, 128, 4}},
		{api.Entry{Kind: 3, Part: 3, ID: 1, End: 0}, []byte{3, 3, 1, 0}},
		{api.Entry{Kind: 3, Part: 0, ID: 128, End: 1 << 40}, []byte{3, 0, 128, 1, 128, 128, 128, 128, 128, 32}},
	} {
		if b, e := Put(c.x); e != api.OK || !bytes.Equal(b, c.b) {
			t.Errorf("Put of %v: %v and error %d, not %v", c.x, b, e, c.b)
		}
		if x, e := Get(c.b); e != api.OK || x != c.x {
			t.Errorf("Get of %v: %v and error %d, not %v", c.b, x, e, c.x)
		}
		wantValid(t, c.x)
	}
}

// TestEachField sets one field of a valid entry at a time.
func TestEachField(t *testing.T) {
	for _, x := range samples() {
		wantValid(t, x)
		for i, b := range boundsOf(x) {
			for _, n := range append(ends(b), 1, 2, 3, 4, 5, 127, 128, greatestID, farthest) {
				l := numbersOf(x)
				l[i] = n
				changed := entryOf(l)
				if i == 0 && n != x.Kind {
					// Another kind may allow these fields, too.
					wantModel(t, changed)
					continue
				}
				if b.least <= n && n <= b.greatest {
					wantValid(t, changed)
				} else {
					wantNotValid(t, changed)
				}
			}
		}
	}
}

func TestFieldsOfNoKind(t *testing.T) {
	kinds := []int{math.MinInt, math.MinInt + 1, math.MinInt + 2, -3, -2, -1, 0, 4, 5, 6, 127, 128, 129, 256, 257, 258, 1<<32 + 1, 1<<32 + 2, math.MaxInt}
	for _, kind := range kinds {
		for _, x := range append(samples(), api.Entry{}) {
			x.Kind = kind
			wantNotValid(t, x)
		}
	}
	wantNotValid(t, api.Entry{})
}

// TestEndsOfAllFields has all entries whose fields are at or beyond the ends of the ranges.
func TestEndsOfAllFields(t *testing.T) {
	offsets := []int{-1, 0, 1, farthest, farthest + 1}
	valid, others := 0, 0
	for _, kind := range []int{-1, 0, 1, 2, 3, 4} {
		for _, part := range []int{-1, 0, 3, 4} {
			for _, id := range []int{0, 1, greatestID, greatestID + 1} {
				for _, start := range offsets {
					for _, end := range offsets {
						for _, size := range []int{-1, 0, 1, greatestSize, greatestSize + 1} {
							for _, sum := range []int{-1, 0, 1, greatestSum, greatestSum + 1} {
								x := entryOf([]int{kind, part, id, start, end, size, sum})
								wantModel(t, x)
								if modelMay(x) {
									valid++
								} else {
									others++
								}
							}
						}
					}
				}
			}
		}
	}
	// Two parts and two IDs: with six pairs of offsets, and three sizes and sums; with nothing; with three offsets.
	if valid != 2*2*(6*3*3+1+3) || others == 0 {
		t.Errorf("%d are valid, %d are not", valid, others)
	}
}

// TestStartAndEnd has commits that end before, where and behind where they start.
func TestStartAndEnd(t *testing.T) {
	for _, start := range []int{0, 1, 127, 128, 5000, farthest - 1, farthest} {
		for d := -2; d <= 2; d++ {
			wantModel(t, api.Entry{Kind: 1, ID: 1, Start: start, End: start + d})
		}
		wantNotValid(t, api.Entry{Kind: 1, ID: 1, Start: start, End: start - 1})
		wantValid(t, api.Entry{Kind: 1, ID: 1, Start: start, End: start})
	}
	wantNotValid(t, api.Entry{Kind: 1, ID: 1, Start: farthest + 1, End: farthest + 1})
	wantNotValid(t, api.Entry{Kind: 1, ID: 1, Start: -1, End: -1})
	wantNotValid(t, api.Entry{Kind: 1, ID: 1, Start: math.MinInt, End: math.MaxInt})
}

func TestGetOfBeginnings(t *testing.T) {
	wantNoEntry(t, nil)
	wantNoEntry(t, []byte{})
	for _, x := range samples() {
		b := modelPut(x)
		for size := range b {
			wantNoEntry(t, b[:size])
			wantNoEntry(t, b[:size:size])
		}
	}
}

func TestGetWithMoreBehind(t *testing.T) {
	for _, x := range samples() {
		b := modelPut(x)
		for more := range 256 {
			wantNoEntry(t, append(bytes.Clone(b), byte(more)))
		}
		wantNoEntry(t, slices.Concat(b, b))
		for _, y := range samples() {
			wantNoEntry(t, slices.Concat(b, modelPut(y)))
		}
	}
}

// TestGetOfTooManyNumbers has each kind with each number of numbers but its own.
func TestGetOfTooManyNumbers(t *testing.T) {
	for kind, count := range map[int]int{1: 7, 2: 3, 3: 4} {
		for _, n := range []int{0, 1, 2} {
			for many := 1; many < 12; many++ {
				l := append([]int{kind, 1, 1}, slices.Repeat([]int{n}, 9)...)[:many]
				if many == count {
					wantValid(t, entryOf(spread(kind, l)))
				} else {
					wantNoEntry(t, varints(l...))
				}
			}
		}
	}
}

// longer are the bytes of n in some ways that Put does not write.
func longer(n int) [][]byte {
	b := varints(n)
	last := len(b) - 1
	open := append(bytes.Clone(b[:last]), b[last]|128)
	l := [][]byte{append(bytes.Clone(open), 0), append(bytes.Clone(open), 128, 0), append(bytes.Clone(open), 128, 128, 0)}
	full := slices.Concat(open, bytes.Repeat([]byte{128}, 9-len(open)))
	return append(l, append(bytes.Clone(full), 0), append(bytes.Clone(full), 128, 0), append(bytes.Clone(full), 2), append(bytes.Clone(full), 1))
}

func TestGetOfLongerNumbers(t *testing.T) {
	for _, x := range samples() {
		for at, i := range toldBy(x.Kind) {
			for _, other := range longer(numbersOf(x)[i]) {
				var b []byte
				for k, j := range toldBy(x.Kind) {
					if k == at {
						b = append(b, other...)
					} else {
						b = append(b, varints(numbersOf(x)[j])...)
					}
				}
				wantNoEntry(t, b)
			}
		}
	}
}

// TestGetOfNumbersTooGreat has numbers that are, in 64 bits or fewer, those of an entry.
func TestGetOfNumbersTooGreat(t *testing.T) {
	for _, x := range samples() {
		for i, n := range numbersOf(x) {
			for _, more := range []int{1 << 8, 1 << 16, 1 << 32, 1 << 41, 1 << 62, math.MinInt} {
				l := numbersOf(x)
				l[i] = n + more
				wantModel(t, entryOf(l))
				if more < 0 || more > farthest {
					wantNotValid(t, entryOf(l))
				}
			}
		}
	}
	// 2^64 - 1 as a number is not -1, and no number at all for num.GetLen.
	wantNoEntry(t, varints(2, -1, 1))
	wantNoEntry(t, varints(2, 1, -1))
	wantNoEntry(t, varints(-2, 1, 1))
}

// TestGetOfOneChange changes each byte of entries to each other one.
func TestGetOfOneChange(t *testing.T) {
	entries := 0
	for _, x := range samples() {
		b := modelPut(x)
		for i := range b {
			for c := range 256 {
				changed := bytes.Clone(b)
				changed[i] = byte(c)
				if wantGet(t, changed) {
					entries++
				}
			}
		}
	}
	if entries < 1000 {
		t.Errorf("only %d entries", entries)
	}
}

// TestGetOfShortBytes has all sequences of up to seven of some bytes.
func TestGetOfShortBytes(t *testing.T) {
	entries := 0
	var each func(b []byte)
	each = func(b []byte) {
		if wantGet(t, b) {
			entries++
		}
		if len(b) == 7 {
			return
		}
		for _, c := range []byte{0, 1, 2, 3, 4, 128, 129} {
			each(append(bytes.Clone(b), c))
		}
	}
	each(nil)
	if entries < 1000 {
		t.Errorf("only %d entries", entries)
	}
}

func TestDrawnEntries(t *testing.T) {
	draw := random(1)
	valid := 0
	for range 20000 {
		x := entryOf([]int{draw(5), draw(5), draw(1 << (1 + draw(31))), 0, draw(1 << (1 + draw(31))), 0, 0})
		if draw(2) == 0 {
			x.Start, x.Size, x.Sum = draw(1<<(1+draw(31))), draw(1<<(1+draw(26))), draw(1<<(1+draw(32)))
		}
		wantModel(t, x)
		if modelMay(x) {
			valid++
		}
	}
	if valid < 2000 {
		t.Errorf("only %d are valid", valid)
	}
}

// TestEntriesHaveOneForm checks that no two entries have the same bytes.
func TestEntriesHaveOneForm(t *testing.T) {
	forms := map[string]api.Entry{}
	for _, x := range samples() {
		for i, b := range boundsOf(x) {
			for _, n := range append(ends(b), 2, 3, 9) {
				l := numbersOf(x)
				l[i] = n
				y := entryOf(l)
				b, e := Put(y)
				if e != api.OK {
					continue
				}
				if other, there := forms[string(b)]; there && other != y {
					t.Errorf("%v and %v are both %v", other, y, b)
				}
				forms[string(b)] = y
			}
		}
	}
	if len(forms) < 50 {
		t.Errorf("only %d forms", len(forms))
	}
}

func FuzzGet(f *testing.F) {
	for _, x := range samples() {
		f.Add(modelPut(x))
	}
	f.Fuzz(func(t *testing.T, b []byte) {
		wantGet(t, b)
	})
}

func FuzzPut(f *testing.F) {
	for _, x := range samples() {
		f.Add(x.Kind, x.Part, x.ID, x.Start, x.End, x.Size, x.Sum)
	}
	f.Fuzz(func(t *testing.T, kind, part, id, start, end, size, sum int) {
		wantModel(t, entryOf([]int{kind, part, id, start, end, size, sum}))
	})
}

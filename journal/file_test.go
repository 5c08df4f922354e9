package journal

import (
	"bytes"
	"math"
	"slices"
	"testing"

	"winnower/api"
)

// wantFile checks that File returns the frames of the definition, and that Read returns the
// journal after the entries, if they can be applied.
func wantFile(t testing.TB, no int, l []api.Entry) []byte {
	t.Helper()
	b, e := File(no, l)
	if want := fileOf(no, len(l), l...); e != api.OK || !bytes.Equal(b, want) {
		t.Fatalf("File of %d with %d entries: error %d, %d bytes, not the %d of the model", no, len(l), e, len(b), len(want))
	}
	return b
}

// wantFileError checks that File returns ErrArg and nothing else.
func wantFileError(t testing.TB, no int, l []api.Entry) {
	t.Helper()
	if b, e := File(no, l); e != api.ErrArg || len(b) != 0 {
		t.Errorf("File of %d with %d entries: %d bytes and error %d", no, len(l), len(b), e)
	}
}

// wantRead checks that Read returns this journal.
func wantRead(t testing.TB, no int, b []byte, want api.Journal) {
	t.Helper()
	if j, ok := Read(no, b); !ok || !sameJournal(j, want) {
		t.Fatalf("Read of %d, %d bytes: %t, %v, not %v", no, len(b), ok, j, want)
	}
}

// wantNoRead checks that Read returns the empty journal and false.
func wantNoRead(t testing.TB, no int, b []byte) {
	t.Helper()
	if j, ok := Read(no, b); ok || !isEmpty(j) {
		t.Fatalf("Read of %d, %d bytes: %t, %v", no, len(b), ok, j)
	}
}

// wantReadOfModel checks that Read returns what the model does, and tells whether it is a file.
func wantReadOfModel(t testing.TB, no int, b []byte) bool {
	t.Helper()
	j, ok := modelRead(no, b)
	if !ok {
		wantNoRead(t, no, b)
		return false
	}
	wantRead(t, no, b, j)
	return true
}

// otherNumbers are numbers of files that are not no.
func otherNumbers(no int) []int {
	l := []int{math.MinInt, math.MinInt + 1, -1 << 32, -greatestID, -128, -no, -2, -1, 0, 1, 2, 5, 127, 128, 16384, no - 1, no + 1, no + 128, 128 * no, greatestID - 1, greatestID, greatestID + 1, 1 << 32, math.MaxInt - 1, math.MaxInt}
	return slices.DeleteFunc(l, func(n int) bool { return n == no })
}

// chain are count commits of one partition.
func chain(part, count int) []api.Entry {
	var l []api.Entry
	for i := range count {
		l = append(l, commit(part, i+1, 3*i, 3*i+3))
	}
	return l
}

func TestFileByHand(t *testing.T) {
	l := []api.Entry{base(1, 7, 20), {Kind: 1, Part: 1, ID: 8, Start: 20, End: 300, Size: 9, Sum: 128}, drop(1, 8)}
	want := []byte{
		3, 172, 2, 3, 46, 78, 28, 132,
		4, 3, 1, 7, 20, 127, 88, 168, 103,
		9, 1, 1, 8, 20, 172, 2, 9, 128, 1, 215, 39, 251, 202,
		3, 2, 1, 8, 15, 180, 5, 235,
	}
	b, e := File(300, l)
	if e != api.OK || !bytes.Equal(b, want) {
		t.Errorf("File: error %d, %v", e, b)
	}
	wantRead(t, 300, want, api.Journal{1: {Gone: 8, Base: 300}})
	b, e = File(1, nil)
	if want := []byte{2, 1, 0, 190, 35, 194, 88}; e != api.OK || !bytes.Equal(b, want) {
		t.Errorf("File without entries: error %d, %v", e, b)
	}
	wantRead(t, 1, b, api.Journal{})
}

func TestFileNumbers(t *testing.T) {
	lists := [][]api.Entry{nil, {}, {commit(0, 1, 0, 5)}, {base(1, 7, 20), commit(1, 8, 20, 30), commit(3, 1, 0, 9)}}
	for _, l := range lists {
		for _, no := range []int{1, 2, 127, 128, 129, 16383, 16384, 1 << 20, greatestID - 1, greatestID} {
			wantRead(t, no, wantFile(t, no, l), made(t, l...))
		}
		for _, no := range []int{math.MinInt, math.MinInt + 1, -greatestID - 1, -greatestID, -2, -1, 0, greatestID + 1, greatestID + 2, 1 << 31, 1 << 32, 1<<32 + 1, farthest, math.MaxInt - 1, math.MaxInt} {
			wantFileError(t, no, l)
		}
	}
}

func TestFileCounts(t *testing.T) {
	for _, count := range []int{0, 1, 2, 3, 127, 128, 129, 1000, 4095, 4096} {
		l := chain(count%4, count)
		var want api.Journal
		want[count%4].Live = l
		wantRead(t, 9, wantFile(t, 9, l), want)
	}
	for _, count := range []int{4097, 4098, 5000, 8192, 10000} {
		wantFileError(t, 9, chain(2, count))
		wantFileError(t, 9, make([]api.Entry, count))
		wantFileError(t, 0, chain(2, count))
	}
	// All three kinds.
	var l []api.Entry
	for i := range 1364 {
		l = append(l, commit(1, i+1, i, i+1), drop(1, i+1), commit(2, i+1, 0, 0))
	}
	l = append(l, base(0, 5, 5), commit(0, 6, 5, 9), drop(0, 6), base(3, 1, 0))
	wantRead(t, greatestID, wantFile(t, greatestID, l), made(t, l...))
	wantFileError(t, greatestID, append(l, drop(2, 1)))
}

// TestFileOfEntriesThatCannotBeApplied: they only have to be valid.
func TestFileOfEntriesThatCannotBeApplied(t *testing.T) {
	for _, l := range [][]api.Entry{
		samples(), {drop(0, 1)}, {commit(0, 2, 0, 5)}, {commit(0, 1, 1, 5)}, {base(0, 1, 1), base(0, 1, 1)},
		{commit(0, 1, 0, 5), commit(0, 1, 0, 5)}, {commit(0, 1, 0, 5), commit(0, 2, 5, 9), drop(0, 2)}, {commit(0, 1, 0, 5), base(0, 1, 5)},
	} {
		wantNoRead(t, 3, wantFile(t, 3, l))
	}
	for _, x := range samples() {
		wantFile(t, 3, []api.Entry{x})
	}
}

func TestFileOfEntriesThatAreNotValid(t *testing.T) {
	l := chain(1, 5)
	for _, x := range samples() {
		for i, b := range boundsOf(x) {
			for _, n := range []int{math.MinInt, b.least - 1, b.greatest + 1, math.MaxInt} {
				numbers := numbersOf(x)
				numbers[i] = n
				bad := entryOf(numbers)
				if modelMay(bad) {
					continue
				}
				for at := range len(l) + 1 {
					wantFileError(t, 5, slices.Insert(slices.Clone(l), at, bad))
				}
				wantFileError(t, 5, []api.Entry{bad})
				wantFileError(t, 0, []api.Entry{bad})
			}
		}
	}
	wantFileError(t, 5, []api.Entry{{}})
	wantFileError(t, 5, append(chain(1, 4095), api.Entry{}))
	wantFileError(t, 5, append(chain(1, 4096), api.Entry{}))
}

func TestReadWithOtherNumbers(t *testing.T) {
	for _, no := range []int{1, 5, 127, 128, 300, greatestID} {
		for _, l := range [][]api.Entry{nil, chain(0, 1), chain(3, 6)} {
			b := wantFile(t, no, l)
			wantRead(t, no, b, made(t, l...))
			for _, other := range otherNumbers(no) {
				wantNoRead(t, other, b)
			}
		}
	}
}

// TestReadOfNumbersThatFileRefuses: Read asks only that the number is not negative, and told.
func TestReadOfNumbersThatFileRefuses(t *testing.T) {
	l := chain(2, 3)
	for _, no := range []int{0, greatestID + 1, 1 << 32, farthest, math.MaxInt - 1, math.MaxInt} {
		wantRead(t, no, fileOf(no, 3, l...), made(t, l...))
		wantRead(t, no, fileOf(no, 0), api.Journal{})
		for _, other := range otherNumbers(no) {
			wantNoRead(t, other, fileOf(no, 3, l...))
		}
	}
	for _, no := range []int{-1, -2, -128, -greatestID, math.MinInt, math.MinInt + 1} {
		wantNoRead(t, no, fileOf(no, 3, l...))
		wantNoRead(t, no, framesOf(varints(no, 0)))
		// For a negative number, PutLen puts nothing.
		wantNoRead(t, no, framesOf(varints(0)))
		wantNoRead(t, no, slices.Concat(framesOf(varints(3)), framesOf(payloadsOf(l...)...)))
		wantNoRead(t, no, framesOf(nil))
		wantNoRead(t, no, nil)
	}
}

func TestReadOfNoBytes(t *testing.T) {
	for _, no := range []int{math.MinInt, -1, 0, 1, 2, 128, greatestID, greatestID + 1, math.MaxInt} {
		for _, b := range [][]byte{nil, {}, {0}, {1}, {0, 0}, make([]byte, 4), make([]byte, 5), make([]byte, 50), {2, 1, 0}, []byte("winnower")} {
			wantNoRead(t, no, b)
		}
	}
}

func TestReadOfEachBeginning(t *testing.T) {
	for _, l := range [][]api.Entry{nil, chain(0, 1), samples()[7:8], chain(3, 7), {base(1, 300, 5000), commit(1, 301, 5000, 9000), drop(1, 301), commit(0, 1, 0, 5)}} {
		b := wantFile(t, 300, l)
		for size := range b {
			wantNoRead(t, 300, b[:size])
			wantNoRead(t, 300, b[:size:size])
		}
	}
}

// heads are first payloads, and whether they are those of a file with the number 300 and 3 entries or fewer.
func heads() map[string]struct {
	payload []byte
	ok      bool
} {
	type head = struct {
		payload []byte
		ok      bool
	}
	return map[string]head{
		"as File makes it":      {varints(300, 3), true},
		"fewer entries":         {varints(300, 2), true},
		"no entries":            {varints(300, 0), true},
		"more entries":          {varints(300, 4), false},
		"4096 entries":          {varints(300, 4096), false},
		"4097 entries":          {varints(300, 4097), false},
		"the greatest int":      {varints(300, math.MaxInt), false},
		"2^63":                  {varints(300, math.MinInt), false},
		"2^64 - 1":              {varints(300, -1), false},
		"no bytes":              {nil, false},
		"a number too few":      {varints(300), false},
		"a number too many":     {varints(300, 3, 0), false},
		"two numbers too many":  {varints(300, 3, 3, 3), false},
		"a byte behind":         {append(varints(300, 3), 1), false},
		"a zero behind":         {append(varints(300, 0), 0), false},
		"half a number behind":  {append(varints(300, 3), 128), false},
		"half a number":         {[]byte{172, 2, 131}, false},
		"half of the first":     {[]byte{172}, false},
		"a longer number":       {[]byte{172, 2, 131, 0}, false},
		"a longer first number": {[]byte{172, 130, 0, 3}, false},
		"exchanged":             {varints(3, 300), false},
		"another number":        {varints(301, 3), false},
		"the number twice":      {varints(300, 300, 3), false},
		"the count alone":       {varints(3), false},
		"an entry":              {varints(2, 1, 1), false},
	}
}

func TestReadOfFirstPayloads(t *testing.T) {
	l := chain(1, 3)
	for name, c := range heads() {
		t.Run(name, func(t *testing.T) {
			b := append(framesOf(c.payload), framesOf(payloadsOf(l...)...)...)
			if c.ok {
				wantRead(t, 300, b, made(t, l...))
			} else {
				wantNoRead(t, 300, b)
			}
			// Also with no payload behind it.
			if bytes.Equal(c.payload, varints(300, 0)) {
				wantRead(t, 300, framesOf(c.payload), api.Journal{})
			} else {
				wantNoRead(t, 300, framesOf(c.payload))
			}
		})
	}
}

// TestReadOfCounts has numbers of entries that are less than, as great as and greater than that of the payloads.
func TestReadOfCounts(t *testing.T) {
	for _, many := range []int{0, 1, 2, 5, 127, 128, 130, 4095, 4096, 4097, 4100} {
		l := chain(2, many)
		entries := framesOf(payloadsOf(l...)...)
		for _, count := range []int{0, 1, 2, 3, 5, 6, 126, 127, 128, 129, 4094, 4095, 4096, 4097, 4098, 4100, math.MaxInt} {
			b := append(framesOf(varints(7, count)), entries...)
			if count <= many && count <= 4096 {
				wantRead(t, 7, b, api.Journal{2: {Live: l}})
			} else {
				wantNoRead(t, 7, b)
			}
		}
	}
}

// faults are payloads of which no entry is read that can be applied behind chain(1, 4).
func faults() map[string][]byte {
	return map[string][]byte{
		"no bytes":                     nil,
		"a zero":                       {0},
		"another first payload":        varints(300, 3),
		"an entry cut off":             varints(1, 1, 5, 12, 15, 5),
		"an entry and a byte":          append(modelPut(commit(1, 5, 12, 15)), 0),
		"two entries":                  append(modelPut(commit(1, 5, 12, 15)), modelPut(commit(1, 6, 15, 15))...),
		"a longer number":              append(varints(2, 1), 129, 0),
		"no kind":                      varints(4, 1, 1),
		"no partition":                 varints(2, 4, 1),
		"no ID":                        varints(2, 1, 0),
		"an ID too great":              varints(2, 1, greatestID+1),
		"a Commit that ends too soon":  varints(1, 1, 5, 12, 11, 0, 0),
		"a Sum too great":              varints(1, 1, 5, 12, 15, 0, greatestSum+1),
		"a Base with a Start":          varints(3, 0, 1, 0, 1),
		"a Commit of the last ID":      modelPut(commit(1, 4, 12, 15)),
		"a Commit behind the next":     modelPut(commit(1, 6, 12, 15)),
		"a Commit from before the End": modelPut(commit(1, 5, 11, 15)),
		"a Commit with a gap":          modelPut(commit(1, 5, 13, 15)),
		"the first Commit again":       modelPut(commit(1, 1, 0, 3)),
		"a Drop of another segment":    modelPut(drop(1, 2)),
		"a Drop where nothing lives":   modelPut(drop(0, 1)),
		"a Base with live segments":    modelPut(base(1, 4, 12)),
	}
}

// TestReadOfFaults has a payload that is no entry, or that cannot be applied, among the first ones
// and behind them, with entries behind it that could be applied.
func TestReadOfFaults(t *testing.T) {
	before, after := payloadsOf(chain(1, 4)...), payloadsOf(commit(1, 5, 12, 15), drop(1, 1), base(2, 3, 4))
	for name, fault := range faults() {
		t.Run(name, func(t *testing.T) {
			payloads := slices.Concat(before, [][]byte{fault}, after)
			for count := range len(payloads) + 2 {
				b := append(framesOf(varints(300, count)), framesOf(payloads...)...)
				if count <= 4 {
					wantRead(t, 300, b, made(t, chain(1, 4)...))
				} else {
					wantNoRead(t, 300, b)
				}
			}
			// Without it, all are read.
			b := append(framesOf(varints(300, 7)), framesOf(slices.Concat(before, after)...)...)
			wantRead(t, 300, b, made(t, append(chain(1, 4), commit(1, 5, 12, 15), drop(1, 1), base(2, 3, 4))...))
		})
	}
}

// TestReadOfTwoFaults: behind the first one nothing counts.
func TestReadOfTwoFaults(t *testing.T) {
	for _, fault := range faults() {
		for _, other := range faults() {
			b := slices.Concat(fileOf(300, 4, chain(1, 4)...), framesOf(fault, other), framesOf(payloadsOf(commit(1, 5, 12, 15))...))
			wantRead(t, 300, b, made(t, chain(1, 4)...))
		}
	}
}

// TestReadOfBrokenFrames has bytes that are no frame behind the first, the last of the first, and later entries.
func TestReadOfBrokenFrames(t *testing.T) {
	broken := framesOf(modelPut(commit(1, 5, 12, 15)))
	broken[len(broken)-1] ^= 1
	for _, noise := range [][]byte{{0}, {255}, {5, 1, 2}, broken, broken[:len(broken)-1], {129, 128, 4}, bytes.Repeat([]byte{255}, 30)} {
		for at := range 5 {
			behind := framesOf(payloadsOf(chain(1, 5)[at:]...)...)
			b := slices.Concat(fileOf(300, 3, chain(1, at)...), noise, behind)
			if at >= 3 {
				wantRead(t, 300, b, made(t, chain(1, at)...))
			} else {
				wantNoRead(t, 300, b)
			}
		}
	}
}

// TestAppended cuts what was appended to a file at each place.
func TestAppended(t *testing.T) {
	for seed := range 12 {
		l, _ := drawnEntries(t, seed, 24)
		for _, count := range []int{0, 1, 5, 23, 24} {
			b := wantFile(t, 300, l[:count])
			// How many entries there are in how many bytes.
			whole := map[int]int{len(b): count}
			for i, x := range l[count:] {
				b = append(b, framesOf(modelPut(x))...)
				whole[len(b)] = count + i + 1
			}
			at := 0
			for size := range len(b) + 1 {
				if n, there := whole[size]; there {
					at = n
				}
				if size < len(wantFile(t, 300, l[:count])) {
					wantNoRead(t, 300, b[:size])
					continue
				}
				wantRead(t, 300, b[:size], made(t, l[:at]...))
			}
		}
	}
}

// TestReadOfOneChange changes each byte of files: to each other one of short files.
func TestReadOfOneChange(t *testing.T) {
	l := []api.Entry{base(1, 7, 20), commit(1, 8, 20, 300), commit(0, 1, 0, 9), drop(1, 8)}
	for _, count := range []int{0, 2, 4} {
		b := fileOf(300, count, l...)
		read := 0
		for i := range b {
			for c := range 256 {
				changed := bytes.Clone(b)
				changed[i] = byte(c)
				if wantReadOfModel(t, 300, changed) {
					read++
				}
			}
		}
		// A change of a later entry leaves the ones before it.
		behind := len(b) - len(fileOf(300, count, l[:count]...))
		if want := 256*behind + len(b) - behind; read != want {
			t.Errorf("%d of the changed files are read, not %d", read, want)
		}
	}
}

// TestReadOfOneChangeOfPayloads frames the changed payloads again, so that the sums are right.
func TestReadOfOneChangeOfPayloads(t *testing.T) {
	l := []api.Entry{base(1, 7, 20), commit(1, 8, 20, 300), commit(0, 1, 0, 9), drop(1, 8), commit(0, 2, 9, 9)}
	for _, count := range []int{0, 3, 5} {
		payloads := append([][]byte{varints(300, count)}, payloadsOf(l...)...)
		for k, payload := range payloads {
			for i := range payload {
				for c := range 256 {
					changed := bytes.Clone(payload)
					changed[i] = byte(c)
					others := slices.Clone(payloads)
					others[k] = changed
					wantReadOfModel(t, 300, framesOf(others...))
				}
			}
		}
	}
}

// TestReadOfOtherPayloads leaves payloads out, exchanges and repeats them.
func TestReadOfOtherPayloads(t *testing.T) {
	for seed := range 40 {
		l, _ := drawnEntries(t, seed, 8)
		payloads := append([][]byte{varints(300, seed%9)}, payloadsOf(l...)...)
		for k := range payloads {
			wantReadOfModel(t, 300, framesOf(slices.Delete(slices.Clone(payloads), k, k+1)...))
			for i := range payloads {
				others := slices.Clone(payloads)
				others[k], others[i] = others[i], others[k]
				wantReadOfModel(t, 300, framesOf(others...))
				wantReadOfModel(t, 300, framesOf(slices.Insert(slices.Clone(payloads), k, payloads[i])...))
			}
		}
	}
}

// TestReadOfLongFiles has many more entries appended than a file is made with.
func TestReadOfLongFiles(t *testing.T) {
	l := chain(3, 20000)
	for i := range 15000 {
		l = append(l, drop(3, i+1))
	}
	b := append(fileOf(8, 4096, l[:4096]...), framesOf(payloadsOf(l[4096:]...)...)...)
	wantRead(t, 8, b, api.Journal{3: {Gone: 15000, Base: 45000, Live: l[15000:20000]}})
}

func FuzzRead(f *testing.F) {
	f.Add(300, modelPut(commit(1, 1, 0, 5)), modelPut(commit(1, 2, 5, 9)), modelPut(drop(1, 1)), []byte{})
	f.Add(1, modelPut(base(2, 7, 20)), modelPut(commit(2, 8, 20, 30)), modelPut(commit(2, 8, 20, 30)), []byte{0, 0, 0, 0, 0})
	f.Add(0, []byte{}, []byte{2, 1, 1}, []byte{3, 0, 1, 0}, framesOf([]byte{3, 0, 1, 0}))
	f.Add(-1, []byte{0}, []byte{1}, []byte{2}, []byte{3})
	f.Fuzz(func(t *testing.T, no int, first, second, third, more []byte) {
		if max(len(first), len(second), len(third)) > 1000 {
			return
		}
		for count := range 5 {
			wantReadOfModel(t, no, slices.Concat(framesOf(varints(no, count), first, second, third), more))
		}
		wantReadOfModel(t, no, framesOf(first, second, third))
		wantReadOfModel(t, no, more)
	})
}

package journal

import (
	"bytes"
	"encoding/binary"
	"hash/crc32"
	"math"
	"slices"
	"testing"

	"winnower/api"
)

// The greatest values of fields.
const (
	greatestID   = 1 << 30
	farthest     = 1 << 40
	greatestSize = 1 << 24
	greatestSum  = 1<<32 - 1
)

func commit(part, id, start, end int) api.Entry {
	return api.Entry{Kind: api.Commit, Part: part, ID: id, Start: start, End: end, Size: 10 * id % 1000, Sum: 7 * id % 1000}
}

func drop(part, id int) api.Entry {
	return api.Entry{Kind: api.Drop, Part: part, ID: id}
}

func base(part, id, end int) api.Entry {
	return api.Entry{Kind: api.Base, Part: part, ID: id, End: end}
}

// random returns numbers from 0 to below a bound, which depend on seed alone.
func random(seed int) func(bound int) int {
	state := uint64(seed)
	return func(bound int) int {
		state = state*6364136223846793005 + 1442695040888963407
		return int((state >> 33) % uint64(bound))
	}
}

// numbersOf are the fields of x, all seven, in the order of Put.
func numbersOf(x api.Entry) []int {
	return []int{x.Kind, x.Part, x.ID, x.Start, x.End, x.Size, x.Sum}
}

// entryOf is the entry with these seven numbers.
func entryOf(l []int) api.Entry {
	return api.Entry{Kind: l[0], Part: l[1], ID: l[2], Start: l[3], End: l[4], Size: l[5], Sum: l[6]}
}

// bounds are the least and the greatest number of a field.
type bounds struct{ least, greatest int }

// boundsOf are those of all seven fields of an entry like x, by the definition of valid. The
// kind of x has to be one of the three.
func boundsOf(x api.Entry) []bounds {
	l := []bounds{{x.Kind, x.Kind}, {0, 3}, {1, greatestID}, {0, 0}, {0, 0}, {0, 0}, {0, 0}}
	switch x.Kind {
	case 1:
		l[3], l[4], l[5], l[6] = bounds{0, x.End}, bounds{x.Start, farthest}, bounds{0, greatestSize}, bounds{0, greatestSum}
	case 3:
		l[4] = bounds{0, farthest}
	}
	return l
}

func modelMay(x api.Entry) bool {
	if x.Kind < 1 || x.Kind > 3 {
		return false
	}
	all := boundsOf(x)
	for i, n := range numbersOf(x) {
		if n < all[i].least || n > all[i].greatest {
			return false
		}
	}
	return true
}

// varints are numbers, one behind the other. A negative one is taken as a number of 64 bits.
func varints(l ...int) []byte {
	var out []byte
	for _, n := range l {
		out = binary.AppendUvarint(out, uint64(n))
	}
	return out
}

// toldBy are the places of the numbers that the bytes of a kind have, among the seven.
func toldBy(kind int) []int {
	return map[int][]int{1: {0, 1, 2, 3, 4, 5, 6}, 2: {0, 1, 2}, 3: {0, 1, 2, 4}}[kind]
}

// toldOf are the numbers that the bytes of x have.
func toldOf(x api.Entry) []int {
	var l []int
	for _, i := range toldBy(x.Kind) {
		l = append(l, numbersOf(x)[i])
	}
	return l
}

// spread are all seven numbers of an entry of this kind, whose bytes have the numbers l.
func spread(kind int, l []int) []int {
	all := make([]int, 7)
	for k, i := range toldBy(kind) {
		all[i] = l[k]
	}
	return all
}

// modelPut is what Put returns for an entry that is valid.
func modelPut(x api.Entry) []byte {
	return varints(toldOf(x)...)
}

// modelGet reads all numbers, then distributes them, and compares what Put would make of this.
func modelGet(b []byte) (api.Entry, bool) {
	var numbers []int
	for rest := b; len(rest) > 0; {
		n, size := binary.Uvarint(rest)
		if size <= 0 {
			return api.Entry{}, false
		}
		numbers, rest = append(numbers, int(n)), rest[size:]
	}
	if len(numbers) == 0 || len(numbers) != len(toldBy(numbers[0])) {
		return api.Entry{}, false
	}
	x := entryOf(spread(numbers[0], numbers))
	return x, modelMay(x) && bytes.Equal(modelPut(x), b)
}

// story is all that happened to one partition: the Base, if there was one, the commits, and
// how many of these were dropped.
type story struct {
	began   bool
	start   api.Entry
	commits []api.Entry
	dropped int
}

// last is the entry behind which the next commit comes: the last commit, or else the Base.
func (y *story) last() api.Entry {
	if len(y.commits) == 0 {
		return y.start
	}
	return y.commits[len(y.commits)-1]
}

// take tells whether x can be applied, and then applies it.
func (y *story) take(x api.Entry) bool {
	switch x.Kind {
	case 1:
		if x.ID-y.last().ID != 1 || x.Start != y.last().End {
			return false
		}
		y.commits = append(y.commits, x)
	case 2:
		if y.dropped == len(y.commits) || y.commits[y.dropped].ID != x.ID {
			return false
		}
		y.dropped++
	case 3:
		if y.began || len(y.commits) > 0 {
			return false
		}
		y.began, y.start = true, x
	}
	return true
}

// log is what the journal tells of this partition.
func (y *story) log() api.PartLog {
	gone := y.start
	if y.dropped > 0 {
		gone = y.commits[y.dropped-1]
	}
	return api.PartLog{Gone: gone.ID, Base: gone.End, Live: y.commits[y.dropped:]}
}

// stories are those of all partitions.
type stories [4]story

func (all *stories) take(x api.Entry) bool {
	return modelMay(x) && all[x.Part].take(x)
}

func (all *stories) journal() api.Journal {
	var j api.Journal
	for i := range all {
		j[i] = all[i].log()
	}
	return j
}

// framesOf are the frames of these payloads, by the definition.
func framesOf(payloads ...[]byte) []byte {
	var out []byte
	for _, payload := range payloads {
		out = append(binary.AppendUvarint(out, uint64(len(payload))), payload...)
		out = binary.LittleEndian.AppendUint32(out, crc32.ChecksumIEEE(payload))
	}
	return out
}

// payloadsOf are the payloads of entries, be they valid or not.
func payloadsOf(l ...api.Entry) [][]byte {
	var out [][]byte
	for _, x := range l {
		out = append(out, modelPut(x))
	}
	return out
}

// fileOf is the file with this number, which tells this number of entries, and has these.
func fileOf(no, count int, l ...api.Entry) []byte {
	return append(framesOf(varints(no, count)), framesOf(payloadsOf(l...)...)...)
}

// framesIn are the payloads of the frames that b begins with, read by the definition. No frame
// here has a length of more than two digits.
func framesIn(b []byte) [][]byte {
	var out [][]byte
	for {
		length, size := binary.Uvarint(b)
		if size <= 0 || size > 2 || size == 2 && length < 128 || uint64(len(b)) < uint64(size)+length+4 {
			return out
		}
		payload := b[size : size+int(length)]
		if !bytes.Equal(framesOf(payload), b[:size+int(length)+4]) {
			return out
		}
		out, b = append(out, payload), b[size+int(length)+4:]
	}
}

// modelRead is what Read returns.
func modelRead(no int, b []byte) (api.Journal, bool) {
	payloads := framesIn(b)
	if no < 0 || len(payloads) == 0 {
		return api.Journal{}, false
	}
	for count := range 4097 {
		if bytes.Equal(payloads[0], varints(no, count)) {
			return replayed(payloads[1:], count)
		}
	}
	return api.Journal{}, false
}

// replayed is what Read returns if payloads follow the first one, and that one tells count.
func replayed(payloads [][]byte, count int) (api.Journal, bool) {
	var all stories
	for i, payload := range payloads {
		if x, ok := modelGet(payload); !ok || !all.take(x) {
			return untilFault(all, i >= count)
		}
	}
	return untilFault(all, len(payloads) >= count)
}

func untilFault(all stories, ok bool) (api.Journal, bool) {
	if !ok {
		return api.Journal{}, false
	}
	return all.journal(), true
}

func sameLog(a, b api.PartLog) bool {
	return a.Gone == b.Gone && a.Base == b.Base && slices.Equal(a.Live, b.Live)
}

func sameJournal(a, b api.Journal) bool {
	return slices.EqualFunc(a[:], b[:], sameLog)
}

// isEmpty reports whether j is the empty journal, but for lists that are empty.
func isEmpty(j api.Journal) bool {
	return sameJournal(j, api.Journal{})
}

// wantApply checks that Apply of x to j returns want.
func wantApply(t testing.TB, j api.Journal, x api.Entry, want api.Journal) api.Journal {
	t.Helper()
	got, e := Apply(j, x)
	if e != api.OK || !sameJournal(got, want) {
		t.Fatalf("Apply of %v to %v: error %d, %v, not %v", x, j, e, got, want)
	}
	return got
}

// wantApplyError checks that Apply of x to j returns the error and nothing else.
func wantApplyError(t testing.TB, j api.Journal, x api.Entry, want api.Errno) {
	t.Helper()
	if got, e := Apply(j, x); e != want || !isEmpty(got) {
		t.Errorf("Apply of %v to %v: error %d, %v, not error %d", x, j, e, got, want)
	}
}

// wantEither checks that Apply returns what the model says, and returns the journal after it.
func wantEither(t testing.TB, all *stories, j api.Journal, x api.Entry) api.Journal {
	t.Helper()
	switch {
	case !modelMay(x):
		wantApplyError(t, j, x, api.ErrArg)
	case !all.take(x):
		wantApplyError(t, j, x, api.ErrState)
	default:
		return wantApply(t, j, x, all.journal())
	}
	return j
}

// made is the journal of entries that can be applied, one after the other.
func made(t testing.TB, l ...api.Entry) api.Journal {
	t.Helper()
	var j api.Journal
	for _, x := range l {
		next, e := Apply(j, x)
		if e != api.OK {
			t.Fatalf("Apply of %v to %v: error %d", x, j, e)
		}
		j = next
	}
	return j
}

// journals are examples: none of them is like another one.
func journals(t testing.TB) map[string]api.Journal {
	t.Helper()
	return map[string]api.Journal{
		"empty":                     {},
		"one live":                  made(t, commit(0, 1, 0, 5)),
		"two live":                  made(t, commit(0, 1, 0, 5), commit(0, 2, 5, 9)),
		"three live in the last":    made(t, commit(3, 1, 0, 5), commit(3, 2, 5, 9), commit(3, 3, 9, farthest)),
		"behind a Drop, one live":   made(t, commit(0, 1, 0, 5), commit(0, 2, 5, 9), drop(0, 1)),
		"behind a Drop, none live":  made(t, commit(1, 1, 0, 5), drop(1, 1)),
		"behind a Base, none live":  made(t, base(2, 7, 20)),
		"behind a Base, two live":   made(t, base(2, 7, 20), commit(2, 8, 20, 30), commit(2, 9, 30, 31)),
		"behind a Base of offset 0": made(t, base(2, 7, 0)),
		"without any offset":        made(t, commit(0, 1, 0, 0), commit(0, 2, 0, 0), drop(0, 1)),
		"Base and Drop":             made(t, base(1, 5, 6), commit(1, 6, 6, 10), commit(1, 7, 10, 12), drop(1, 6)),
		"at the ends":               made(t, base(0, greatestID-1, farthest), commit(0, greatestID, farthest, farthest)),
		"all partitions": made(t, commit(0, 1, 0, 5), base(1, 3, 4), commit(2, 1, 0, 9), commit(3, 1, 0, 2), commit(3, 2, 2, 3),
			drop(3, 1), commit(0, 2, 5, 6), commit(1, 4, 4, 8), commit(2, 2, 9, 9), drop(2, 1), drop(2, 2)),
	}
}

// drawnEntry is an entry for j that seed tells: most of the time one that can be applied.
func drawnEntry(draw func(int) int, j api.Journal) api.Entry {
	part := draw(4)
	p := j[part]
	last, end := p.Gone, p.Base
	if n := len(p.Live); n > 0 {
		last, end = p.Live[n-1].ID, p.Live[n-1].End
	}
	switch draw(8) {
	case 0:
		return commit(part, last+draw(3), end, end+draw(5))
	case 1:
		return commit(part, last+1, end+draw(3)-1, end+draw(5))
	case 2:
		return base(part, 1+draw(300), draw(3000))
	case 3, 4:
		return drop(part, p.Gone+1-draw(5)/4)
	}
	return api.Entry{Kind: 1, Part: part, ID: last + 1, Start: end, End: end + draw(300), Size: draw(greatestSize + 1), Sum: draw(greatestSum + 1)}
}

// drawnEntries are entries that can be applied, one after the other, and the journal of them.
func drawnEntries(t testing.TB, seed, count int) ([]api.Entry, api.Journal) {
	t.Helper()
	draw := random(seed)
	var l []api.Entry
	var all stories
	for len(l) < count {
		if x := drawnEntry(draw, all.journal()); all.take(x) {
			l = append(l, x)
		}
	}
	return l, all.journal()
}

// ends are numbers near the bounds, and far from them.
func ends(b bounds) []int {
	return []int{math.MinInt, math.MinInt + 1, b.least - 1, b.least, b.least + 1, b.greatest - 1, b.greatest, b.greatest + 1, math.MaxInt - 1, math.MaxInt}
}

package journal

import (
	"bytes"
	"reflect"
	"slices"
	"testing"

	"winnower/api"
)

// wantNoGaps checks that the live segments follow one another from Base to End, and that their IDs do.
func wantNoGaps(t testing.TB, j api.Journal) {
	t.Helper()
	for part, p := range j {
		id, at := p.Gone, p.Base
		for _, x := range p.Live {
			if x.ID != id+1 || x.Start != at || x.End < at || x.Part != part || x.Kind != api.Commit {
				t.Fatalf("partition %d: %v comes behind segment %d, which ends at %d", part, x, id, at)
			}
			id, at = x.ID, x.End
		}
		if End(j, part) != at || Last(j, part) != id {
			t.Fatalf("partition %d: End %d and Last %d, not %d and %d", part, End(j, part), Last(j, part), at, id)
		}
	}
}

// wantSameFromEntries checks that the Entries of j yield j, and that there are no more of them than needed.
func wantSameFromEntries(t testing.TB, j api.Journal) {
	t.Helper()
	l := Entries(j)
	if again := made(t, l...); !sameJournal(again, j) || !slices.Equal(Entries(again), l) {
		t.Fatalf("the entries of %v yield %v", j, again)
	}
	count := 0
	for _, p := range j {
		count += len(p.Live) + min(p.Gone, 1)
	}
	if len(l) != count {
		t.Fatalf("%v has %d entries, not %d", j, len(l), count)
	}
}

func TestEntriesYieldTheSameJournal(t *testing.T) {
	for _, j := range journals(t) {
		wantSameFromEntries(t, j)
		wantNoGaps(t, j)
	}
	for seed := range 300 {
		_, j := drawnEntries(t, seed, seed%60)
		wantSameFromEntries(t, j)
		wantNoGaps(t, j)
	}
}

// TestReadOfEntries reads the entries of a journal from a file, as a store does when it rewrites one.
func TestReadOfEntries(t *testing.T) {
	for seed := range 100 {
		l, j := drawnEntries(t, seed, seed%40)
		b := wantFile(t, 1+seed, Entries(j))
		wantRead(t, 1+seed, b, j)
		wantRead(t, 1+seed, wantFile(t, 1+seed, l), j)
		// Later entries follow in the same way.
		if len(l) > 0 {
			short := made(t, l[:len(l)/2]...)
			more := append(wantFile(t, 9, Entries(short)), framesOf(payloadsOf(l[len(l)/2:]...)...)...)
			wantRead(t, 9, more, j)
		}
	}
}

// TestNoGapsInWhatIsRead reads files of which some payloads were changed: what is read has no gaps.
func TestNoGapsInWhatIsRead(t *testing.T) {
	read, live := 0, 0
	for seed := range 1500 {
		l, _ := drawnEntries(t, seed, 12)
		draw := random(seed + 1)
		count := draw(6)
		for range 1 + draw(2) {
			numbers, i := numbersOf(l[draw(12)]), draw(7)
			numbers[i] += draw(5) - 2
			l[draw(12)] = entryOf(numbers)
		}
		b := fileOf(300, count, l...)
		b = b[:len(b)-draw(20)]
		wantReadOfModel(t, 300, b)
		j, ok := Read(300, b)
		wantNoGaps(t, j)
		wantSameFromEntries(t, j)
		if ok {
			read++
			live += len(Entries(j))
		}
	}
	if read < 100 || live < 100 {
		t.Errorf("%d files are read, with %d entries", read, live)
	}
}

// spare is a copy of l with room behind it, in which there are the elements of behind.
func spare[E any](l []E, behind ...E) []E {
	return append(slices.Clone(l), behind...)[:len(l)]
}

// spared is a copy of j whose lists all have room behind them.
func spared(j api.Journal) api.Journal {
	for i, p := range j {
		j[i].Live = spare(p.Live, commit(i, 70, 0, 5), drop(i, 71), commit(i, 72, 5, 6))
	}
	return j
}

// whole is a copy of j with what lies behind its lists.
func whole(j api.Journal) api.Journal {
	for i, p := range j {
		j[i].Live = slices.Clone(p.Live[:cap(p.Live)])
	}
	return j
}

// spoil changes all elements of l, and what lies behind them.
func spoil[E any](l []E, to E) {
	l = l[:cap(l)]
	for i := range l {
		l[i] = to
	}
}

func spoilJournal(j api.Journal) {
	for _, p := range j {
		spoil(p.Live, drop(3, 9))
	}
}

// nextEntries are entries that can be applied to j, and some that cannot.
func nextEntries(j api.Journal) []api.Entry {
	l := []api.Entry{{}, drop(0, greatestID), commit(1, greatestID, 5, 5)}
	for part := range 4 {
		l = append(l, commit(part, Last(j, part)+1, End(j, part), End(j, part)), drop(part, j[part].Gone+1), base(part, 4, 5))
	}
	return l
}

func TestArgumentsStay(t *testing.T) {
	for seed := range 60 {
		l, drawn := drawnEntries(t, seed, seed%30)
		j, entries, b := spared(drawn), spare(l, drop(0, 5)), spare(fileOf(300, len(l)/2, l...), 1, 2, 3)
		b = b[:len(b)-seed%3]
		journal, list, bytesBehind := whole(j), slices.Clone(entries[:cap(entries)]), bytes.Clone(b[:cap(b)])
		for _, x := range nextEntries(j) {
			Apply(j, x)
		}
		Entries(j)
		End(j, 1)
		Last(j, 1)
		File(300, entries)
		File(0, entries)
		Read(300, b)
		Read(1, b)
		Get(b)
		if !sameJournal(whole(j), journal) || !slices.Equal(entries[:cap(entries)], list) || !bytes.Equal(b[:cap(b)], bytesBehind) {
			t.Fatalf("seed %d: what was handed in is changed", seed)
		}
		for _, x := range l {
			own := spare(modelPut(x), 9, 9)
			if Get(own); !bytes.Equal(own[:cap(own)][:len(own)+2], append(modelPut(x), 9, 9)) {
				t.Fatalf("seed %d: Get changes bytes", seed)
			}
		}
	}
}

// TestArgumentsStayThroughManyApplies applies entries to one journal again and again, each time from the start.
func TestArgumentsStayThroughManyApplies(t *testing.T) {
	for seed := range 30 {
		l, _ := drawnEntries(t, seed, 20)
		all := []api.Journal{{}}
		for _, x := range l {
			j, _ := Apply(all[len(all)-1], x)
			all = append(all, j)
		}
		// Other entries are applied to each of them in turn: none of the others changes.
		for i := range all {
			for _, x := range nextEntries(all[i]) {
				j, _ := Apply(all[i], x)
				spoilJournal(j)
			}
			for k, j := range all {
				if !sameJournal(j, made(t, l[:k]...)) {
					t.Fatalf("seed %d: an Apply to journal %d changes journal %d", seed, i, k)
				}
			}
		}
	}
}

// TestChangesOfArguments changes what was handed in: what was answered stays.
func TestChangesOfArguments(t *testing.T) {
	for seed := range 60 {
		l, want := drawnEntries(t, seed, seed%30)
		for _, x := range nextEntries(want) {
			next, e := Apply(want, x)
			given := spared(want)
			got, again := Apply(given, x)
			spoilJournal(given)
			if e != again || !sameJournal(got, next) {
				t.Fatalf("seed %d: a change of the journal changes the one after %v", seed, x)
			}
		}
		given := spared(want)
		entries := Entries(given)
		spoilJournal(given)
		if !slices.Equal(entries, Entries(want)) {
			t.Fatalf("seed %d: a change of the journal changes its entries", seed)
		}
		list := slices.Clone(l)
		b, _ := File(300, list)
		spoil(list, drop(3, 9))
		if !bytes.Equal(b, fileOf(300, len(l), l...)) {
			t.Fatalf("seed %d: a change of the entries changes the file", seed)
		}
		j, _ := Read(300, b)
		spoil(b, 0xAA)
		if !sameJournal(j, want) {
			t.Fatalf("seed %d: a change of the file changes the journal", seed)
		}
	}
}

// TestChangesOfResults changes what was answered: neither what was handed in nor a later answer changes.
func TestChangesOfResults(t *testing.T) {
	for seed := range 60 {
		l, want := drawnEntries(t, seed, seed%30)
		given, file := spared(want), fileOf(300, len(l), l...)
		b := bytes.Clone(file)
		for range 2 {
			for _, x := range nextEntries(want) {
				j, _ := Apply(given, x)
				spoilJournal(j)
				one, _ := Put(x)
				spoil(one, 0xAA)
			}
			spoil(Entries(given), drop(3, 9))
			out, _ := File(300, l)
			spoil(out, 0xAA)
			j, _ := Read(300, b)
			spoilJournal(j)
		}
		if !sameJournal(given, want) || !bytes.Equal(b, file) || !slices.Equal(Entries(given), Entries(want)) {
			t.Fatalf("seed %d: what was handed in is changed", seed)
		}
		wantRead(t, 300, b, want)
		if again := wantFile(t, 300, l); !bytes.Equal(again, file) {
			t.Fatalf("seed %d: another file", seed)
		}
		for _, x := range l {
			wantValid(t, x)
		}
	}
}

// TestListsOfOneAnswerAreApart changes, and extends, one list of an answer: the others stay.
func TestListsOfOneAnswerAreApart(t *testing.T) {
	// All partitions of this journal have one list, which is not theirs alone.
	shared := spare([]api.Entry{commit(0, 1, 0, 5), commit(0, 2, 5, 9), commit(0, 3, 9, 9)}, drop(0, 1), drop(0, 2))
	one := api.Journal{{Live: shared}, {Live: shared[:2]}, {Live: shared[1:]}, {Gone: 3, Live: shared[:0]}}
	for _, x := range []api.Entry{commit(0, 4, 9, 12), drop(0, 1), drop(1, 1), drop(2, 2), commit(1, 3, 9, 9), commit(3, 4, 0, 5)} {
		for part := range 4 {
			j, e := Apply(one, x)
			want := j
			for i, p := range j {
				want[i].Live = slices.Clone(p.Live)
			}
			spoil(append(j[part].Live, drop(1, 1)), drop(3, 9))
			spoil(j[part].Live, drop(3, 9))
			j[part].Live = want[part].Live
			if e != api.OK || !sameJournal(j, want) || shared[0] != commit(0, 1, 0, 5) || shared[:4][3] != drop(0, 1) {
				t.Fatalf("%v: a change of the list of partition %d changes others: error %d, %v, not %v", x, part, e, j, want)
			}
		}
	}
	for seed := range 40 {
		l, want := drawnEntries(t, seed, 30)
		for part := range 4 {
			j, _ := Read(300, fileOf(300, 10, l...))
			spoil(append(j[part].Live, drop(1, 1)), drop(3, 9))
			spoil(j[part].Live, drop(3, 9))
			j[part].Live = want[part].Live
			if !sameJournal(j, want) {
				t.Fatalf("seed %d: a change of the list of partition %d changes others", seed, part)
			}
		}
	}
}

// TestSameCallsSameAnswers asks everything twice, with other room behind the lists.
func TestSameCallsSameAnswers(t *testing.T) {
	for seed := range 60 {
		l, j := drawnEntries(t, seed, seed%30)
		again, other := drawnEntries(t, seed, seed%30)
		other = spared(other)
		for _, x := range nextEntries(j) {
			a, e := Apply(j, x)
			b, f := Apply(other, x)
			if e != f || !reflect.DeepEqual(a, b) {
				t.Fatalf("seed %d: %v, then %v", seed, a, b)
			}
		}
		a, e := File(7, l)
		b, f := File(7, again)
		if e != f || !bytes.Equal(a, b) || !slices.Equal(Entries(j), Entries(other)) {
			t.Fatalf("seed %d: File and Entries: other answers", seed)
		}
		first, ok := Read(7, a)
		second, yes := Read(7, spare(b, 1, 1, 1))
		if ok != yes || !reflect.DeepEqual(first, second) {
			t.Fatalf("seed %d: %v, then %v", seed, first, second)
		}
	}
}

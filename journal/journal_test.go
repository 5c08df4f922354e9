package journal

import (
	"math"
	"slices"
	"testing"

	"winnower/api"
)

func TestTheExample(t *testing.T) {
	j := made(t, commit(0, 1, 0, 5), commit(0, 2, 5, 9), drop(0, 1))
	if j[0].Base != 5 || End(j, 0) != 9 || Last(j, 0) != 2 || j[0].Gone != 1 || !slices.Equal(j[0].Live, []api.Entry{commit(0, 2, 5, 9)}) {
		t.Errorf("%v, End %d, Last %d", j, End(j, 0), Last(j, 0))
	}
}

func TestEffects(t *testing.T) {
	first, second, third := commit(1, 1, 0, 5), commit(1, 2, 5, 9), commit(1, 3, 9, 9)
	for _, c := range []struct {
		before []api.Entry
		x      api.Entry
		want   api.PartLog
	}{
		{nil, first, api.PartLog{Live: []api.Entry{first}}},
		{[]api.Entry{first}, second, api.PartLog{Live: []api.Entry{first, second}}},
		{[]api.Entry{first, second}, third, api.PartLog{Live: []api.Entry{first, second, third}}},
		{[]api.Entry{first}, drop(1, 1), api.PartLog{Gone: 1, Base: 5}},
		{[]api.Entry{first, second}, drop(1, 1), api.PartLog{Gone: 1, Base: 5, Live: []api.Entry{second}}},
		{[]api.Entry{first, second, third, drop(1, 1)}, drop(1, 2), api.PartLog{Gone: 2, Base: 9, Live: []api.Entry{third}}},
		{[]api.Entry{first, drop(1, 1)}, second, api.PartLog{Gone: 1, Base: 5, Live: []api.Entry{second}}},
		{[]api.Entry{first, drop(1, 1), second}, drop(1, 2), api.PartLog{Gone: 2, Base: 9}},
		{nil, base(1, 8, 40), api.PartLog{Gone: 8, Base: 40}},
		{nil, base(1, 8, 0), api.PartLog{Gone: 8, Base: 0}},
		{nil, base(1, greatestID, farthest), api.PartLog{Gone: greatestID, Base: farthest}},
		{[]api.Entry{base(1, 1, 5)}, second, api.PartLog{Gone: 1, Base: 5, Live: []api.Entry{second}}},
		{[]api.Entry{base(1, 1, 5), second}, drop(1, 2), api.PartLog{Gone: 2, Base: 9}},
		{[]api.Entry{base(1, 1, 0)}, commit(1, 2, 0, 3), api.PartLog{Gone: 1, Base: 0, Live: []api.Entry{commit(1, 2, 0, 3)}}},
		{nil, commit(1, 1, 0, 0), api.PartLog{Live: []api.Entry{commit(1, 1, 0, 0)}}},
		{[]api.Entry{commit(1, 1, 0, 0)}, drop(1, 1), api.PartLog{Gone: 1, Base: 0}},
	} {
		j := made(t, c.before...)
		wantApply(t, j, c.x, api.Journal{1: c.want})
		// Of the other partitions nothing matters, and nothing changes.
		for name, other := range journals(t) {
			other[1] = j[1]
			want := other
			want[1] = c.want
			if got := wantApply(t, other, c.x, want); !sameJournal(got, want) {
				t.Errorf("%s: %v", name, got)
			}
		}
	}
}

// TestCommits has commits with each ID and each Start near the ones that follow.
func TestCommits(t *testing.T) {
	for name, j := range journals(t) {
		t.Run(name, func(t *testing.T) {
			for part := range 4 {
				last, end := Last(j, part), End(j, part)
				for d := -2; d <= 2; d++ {
					for from := -2; from <= 2; from++ {
						for _, more := range []int{0, 1, 30, 500} {
							x := commit(part, last+d, end+from, end+from+more)
							switch {
							case x.ID < 1 || x.ID > greatestID || x.Start < 0 || x.End > farthest:
								wantApplyError(t, j, x, api.ErrArg)
							case d == 1 && from == 0:
								want := j
								want[part].Live = slices.Concat(j[part].Live, []api.Entry{x})
								wantApply(t, j, x, want)
							default:
								wantApplyError(t, j, x, api.ErrState)
							}
						}
					}
				}
			}
		})
	}
}

// TestCommitsFarOff has IDs and Starts that are nowhere near the ones that follow.
func TestCommitsFarOff(t *testing.T) {
	j := made(t, commit(0, 1, 0, 500), commit(0, 2, 500, 900), commit(1, 1, 0, 70))
	for _, x := range []api.Entry{
		commit(0, 1, 0, 500), commit(0, 2, 500, 900), commit(0, 2, 900, 901), commit(0, 3, 0, 901), commit(0, 3, 500, 901),
		commit(0, 4, 900, 901), commit(0, greatestID, 900, 901), commit(0, 3, farthest, farthest), commit(0, 3, 70, 901),
		commit(1, 3, 900, 901), commit(1, 2, 900, 901), commit(1, 3, 70, 71), commit(2, 3, 900, 901), commit(2, 1, 900, 901), commit(2, 2, 70, 71), commit(3, 2, 0, 5),
	} {
		wantApplyError(t, j, x, api.ErrState)
	}
	wantApply(t, j, commit(0, 3, 900, farthest), made(t, commit(0, 1, 0, 500), commit(0, 2, 500, 900), commit(1, 1, 0, 70), commit(0, 3, 900, farthest)))
}

// TestNoMoreIDs has a partition whose last ID is the greatest one.
func TestNoMoreIDs(t *testing.T) {
	for _, j := range []api.Journal{made(t, base(0, greatestID, 5)), made(t, base(0, greatestID-1, 5), commit(0, greatestID, 5, 5))} {
		wantApplyError(t, j, commit(0, greatestID+1, 5, 6), api.ErrArg)
		wantApplyError(t, j, commit(0, greatestID, 5, 6), api.ErrState)
		wantApplyError(t, j, commit(0, 1, 5, 6), api.ErrState)
	}
}

func TestDrops(t *testing.T) {
	for name, j := range journals(t) {
		t.Run(name, func(t *testing.T) {
			for part := range 4 {
				live := j[part].Live
				for _, id := range []int{1, 2, 3, 4, 5, 6, 7, 8, 9, 10, greatestID - 1, greatestID} {
					if len(live) == 0 || live[0].ID != id {
						wantApplyError(t, j, drop(part, id), api.ErrState)
						continue
					}
					want := j
					want[part] = api.PartLog{Gone: id, Base: live[0].End, Live: live[1:]}
					wantApply(t, j, drop(part, id), want)
				}
			}
		})
	}
}

// TestDropAll drops the segments of a partition one after the other, up to the last that lives.
func TestDropAll(t *testing.T) {
	var all []api.Entry
	for i := range 20 {
		all = append(all, commit(2, i+1, 10*i, 10*i+10))
	}
	j := made(t, all...)
	for i := range all {
		for id := 1; id <= 21; id++ {
			if id != i+1 {
				wantApplyError(t, j, drop(2, id), api.ErrState)
			}
		}
		j = wantApply(t, j, drop(2, i+1), api.Journal{2: {Gone: i + 1, Base: 10*i + 10, Live: all[i+1:]}})
		if End(j, 2) != 200 || Last(j, 2) != 20 {
			t.Errorf("End %d, Last %d", End(j, 2), Last(j, 2))
		}
	}
	wantApplyError(t, j, drop(2, 20), api.ErrState)
	wantApplyError(t, j, drop(2, 21), api.ErrState)
	wantApply(t, j, commit(2, 21, 200, 201), api.Journal{2: {Gone: 20, Base: 200, Live: []api.Entry{commit(2, 21, 200, 201)}}})
}

func TestBases(t *testing.T) {
	for name, j := range journals(t) {
		t.Run(name, func(t *testing.T) {
			for part, p := range j {
				for _, x := range []api.Entry{base(part, 1, 0), base(part, 1, 5), base(part, 7, 20), base(part, p.Gone+1, p.Base), base(part, greatestID, farthest)} {
					if p.Gone != 0 || p.Base != 0 || len(p.Live) > 0 {
						wantApplyError(t, j, x, api.ErrState)
						continue
					}
					want := j
					want[part] = api.PartLog{Gone: x.ID, Base: x.End}
					wantApply(t, j, x, want)
				}
			}
		})
	}
}

// TestApplyOfEntriesThatAreNotValid applies them to all examples: ErrArg comes first.
func TestApplyOfEntriesThatAreNotValid(t *testing.T) {
	var bad []api.Entry
	for _, x := range append(samples(), commit(0, 1, 0, 5), commit(0, 3, 9, 12), drop(0, 1), drop(0, 2), base(0, 1, 5), base(1, 1, 5)) {
		for i, b := range boundsOf(x) {
			for _, n := range []int{math.MinInt, b.least - 1, b.greatest + 1, math.MaxInt} {
				l := numbersOf(x)
				l[i] = n
				if y := entryOf(l); !modelMay(y) {
					bad = append(bad, y)
				}
			}
		}
	}
	bad = append(bad, api.Entry{}, api.Entry{ID: 1}, api.Entry{Kind: 4, ID: 1}, api.Entry{Kind: -1, ID: 1})
	for _, j := range journals(t) {
		for _, x := range bad {
			wantApplyError(t, j, x, api.ErrArg)
		}
	}
	if len(bad) < 100 {
		t.Errorf("only %d entries", len(bad))
	}
}

// TestJournalsThatNoEntriesMake has what no Apply returns: the definitions hold for it, too.
func TestJournalsThatNoEntriesMake(t *testing.T) {
	nothing := api.Journal{}
	// Gone or Base alone is not 0: no Base can be applied, and a segment comes behind both.
	wantApplyError(t, api.Journal{{Gone: 3}}, base(0, 5, 5), api.ErrState)
	wantApplyError(t, api.Journal{{Base: 4}}, base(0, 5, 5), api.ErrState)
	wantApplyError(t, api.Journal{{Gone: -3}}, base(0, 5, 5), api.ErrState)
	wantApplyError(t, api.Journal{{Base: -4}}, base(0, 5, 5), api.ErrState)
	wantApplyError(t, api.Journal{{Live: []api.Entry{{}}}}, base(0, 5, 5), api.ErrState)
	wantApply(t, api.Journal{{Gone: 3}}, commit(0, 4, 0, 5), api.Journal{{Gone: 3, Live: []api.Entry{commit(0, 4, 0, 5)}}})
	wantApply(t, api.Journal{{Base: 4}}, commit(0, 1, 4, 5), api.Journal{{Base: 4, Live: []api.Entry{commit(0, 1, 4, 5)}}})
	wantApplyError(t, api.Journal{{Base: 4}}, commit(0, 1, 0, 5), api.ErrState)
	wantApplyError(t, api.Journal{{Gone: 3}}, commit(0, 1, 0, 5), api.ErrState)
	// Live segments that are none, and that leave gaps.
	odd := api.Entry{Kind: -9, Part: 77, ID: 5, Start: 100, End: 50, Size: -1, Sum: -1}
	j := api.Journal{{Gone: 9, Base: 8, Live: []api.Entry{odd, commit(0, 2, 7, 9)}}}
	wantApply(t, j, drop(0, 5), api.Journal{{Gone: 5, Base: 50, Live: []api.Entry{commit(0, 2, 7, 9)}}})
	wantApply(t, j, commit(0, 3, 9, 9), api.Journal{{Gone: 9, Base: 8, Live: []api.Entry{odd, commit(0, 2, 7, 9), commit(0, 3, 9, 9)}}})
	wantApplyError(t, j, drop(0, 10), api.ErrState)
	// No ID follows the greatest integer, or one beyond the IDs.
	for _, id := range []int{math.MaxInt, math.MinInt, greatestID, -1} {
		for _, p := range []api.PartLog{{Gone: id}, {Live: []api.Entry{{ID: id}}}} {
			for _, next := range []int{1, 2, greatestID} {
				wantApplyError(t, api.Journal{2: p}, commit(2, next, 0, 0), api.ErrState)
			}
		}
	}
	if End(j, 0) != 9 || Last(j, 0) != 2 || !isEmpty(nothing) {
		t.Errorf("End %d, Last %d", End(j, 0), Last(j, 0))
	}
}

func TestEntries(t *testing.T) {
	for _, c := range []struct {
		made, want []api.Entry
	}{
		{nil, nil},
		// Gone and no live segment, live segments and Gone 0, both: in one partition.
		{[]api.Entry{base(2, 7, 20)}, []api.Entry{base(2, 7, 20)}},
		{[]api.Entry{base(2, 7, 0)}, []api.Entry{base(2, 7, 0)}},
		{[]api.Entry{commit(2, 1, 0, 5), drop(2, 1)}, []api.Entry{base(2, 1, 5)}},
		{[]api.Entry{commit(2, 1, 0, 0), drop(2, 1)}, []api.Entry{base(2, 1, 0)}},
		{[]api.Entry{commit(2, 1, 0, 5)}, []api.Entry{commit(2, 1, 0, 5)}},
		{[]api.Entry{commit(2, 1, 0, 5), commit(2, 2, 5, 9)}, []api.Entry{commit(2, 1, 0, 5), commit(2, 2, 5, 9)}},
		{[]api.Entry{commit(2, 1, 0, 5), commit(2, 2, 5, 9), drop(2, 1), commit(2, 3, 9, 9)}, []api.Entry{base(2, 1, 5), commit(2, 2, 5, 9), commit(2, 3, 9, 9)}},
		{[]api.Entry{base(2, 7, 20), commit(2, 8, 20, 30), commit(2, 9, 30, 31), drop(2, 8)}, []api.Entry{base(2, 8, 30), commit(2, 9, 30, 31)}},
		// All of them, in all four.
		{[]api.Entry{commit(3, 1, 0, 5), commit(1, 1, 0, 6), base(0, 4, 4), commit(2, 1, 0, 7), commit(1, 2, 6, 8), drop(3, 1), commit(0, 5, 4, 9), drop(1, 1), drop(2, 1)},
			[]api.Entry{base(0, 4, 4), commit(0, 5, 4, 9), base(1, 1, 6), commit(1, 2, 6, 8), base(2, 1, 7), base(3, 1, 5)}},
		{[]api.Entry{commit(3, 1, 0, 4), commit(2, 1, 0, 3), commit(1, 1, 0, 2), commit(0, 1, 0, 1)},
			[]api.Entry{commit(0, 1, 0, 1), commit(1, 1, 0, 2), commit(2, 1, 0, 3), commit(3, 1, 0, 4)}},
		{[]api.Entry{base(3, 1, 4), base(2, 2, 3), base(1, 3, 2), base(0, 4, 1)}, []api.Entry{base(0, 4, 1), base(1, 3, 2), base(2, 2, 3), base(3, 1, 4)}},
	} {
		if got := Entries(made(t, c.made...)); !slices.Equal(got, c.want) {
			t.Errorf("Entries after %v: %v, not %v", c.made, got, c.want)
		}
	}
}

// TestEntriesOfJournalsThatNoEntriesMake has a Base only if Gone is not 0, and all live segments as they are.
func TestEntriesOfJournalsThatNoEntriesMake(t *testing.T) {
	odd := api.Entry{Kind: -9, Part: 77, ID: -5, Start: 100, End: 50, Size: -1, Sum: -1}
	for _, c := range []struct {
		j    api.Journal
		want []api.Entry
	}{
		{api.Journal{1: {Base: 6}}, nil},
		{api.Journal{1: {Base: 6, Live: []api.Entry{odd}}}, []api.Entry{odd}},
		{api.Journal{1: {Gone: -4, Base: -6}}, []api.Entry{{Kind: 3, Part: 1, ID: -4, End: -6}}},
		{api.Journal{3: {Gone: math.MinInt, Base: math.MaxInt, Live: []api.Entry{odd, {}}}}, []api.Entry{{Kind: 3, Part: 3, ID: math.MinInt, End: math.MaxInt}, odd, {}}},
	} {
		if got := Entries(c.j); !slices.Equal(got, c.want) {
			t.Errorf("Entries of %v: %v, not %v", c.j, got, c.want)
		}
	}
}

func TestEndAndLast(t *testing.T) {
	none := [2]int{}
	for name, want := range map[string][4][2]int{
		"empty":                     {},
		"one live":                  {{5, 1}},
		"two live":                  {{9, 2}},
		"three live in the last":    {3: {farthest, 3}},
		"behind a Drop, one live":   {{9, 2}},
		"behind a Drop, none live":  {1: {5, 1}},
		"behind a Base, none live":  {2: {20, 7}},
		"behind a Base, two live":   {2: {31, 9}},
		"behind a Base of offset 0": {2: {0, 7}},
		"without any offset":        {{0, 2}},
		"Base and Drop":             {1: {12, 7}},
		"at the ends":               {{farthest, greatestID}},
		"all partitions":            {{6, 2}, {8, 4}, {9, 2}, {3, 2}},
	} {
		j := journals(t)[name]
		for part := range 4 {
			if got := [2]int{End(j, part), Last(j, part)}; got != want[part] {
				t.Errorf("%s: End and Last of %d: %v, not %v", name, part, got, want[part])
			}
		}
		for _, part := range []int{-1, -2, -3, -4, 4, 5, 6, 7, 8, 256, 1 << 32, -1 << 32, math.MinInt, math.MinInt + 1, math.MaxInt, math.MaxInt - 1} {
			if got := [2]int{End(j, part), Last(j, part)}; got != none {
				t.Errorf("%s: End and Last of %d: %v", name, part, got)
			}
		}
	}
	if len(journals(t)) != 13 {
		t.Error("examples are left out")
	}
}

// TestSequences has all sequences of entries of two partitions that can be applied, up to some
// length, and behind each of them all entries.
func TestSequences(t *testing.T) {
	var all []api.Entry
	for _, part := range []int{0, 3} {
		for id := 1; id <= 3; id++ {
			all = append(all, drop(part, id))
			for start := range 3 {
				all = append(all, commit(part, id, start, start), commit(part, id, start, start+1))
			}
		}
		all = append(all, base(part, 1, 0), base(part, 1, 1), base(part, 2, 1), base(4*part, 1, 1))
	}
	applied, refused := 0, 0
	var each func(past []api.Entry, j api.Journal)
	each = func(past []api.Entry, j api.Journal) {
		for _, x := range all {
			var y stories
			for _, entry := range past {
				y.take(entry)
			}
			before := Entries(j)
			next := wantEither(t, &y, j, x)
			if !slices.Equal(Entries(j), before) {
				t.Fatalf("Apply of %v behind %v changes the journal", x, past)
			}
			if sameJournal(next, j) {
				refused++
				continue
			}
			applied++
			if len(past) < 3 {
				each(append(slices.Clone(past), x), next)
			}
		}
	}
	each(nil, api.Journal{})
	if applied < 1000 || refused < 1000 {
		t.Errorf("%d are applied, %d refused", applied, refused)
	}
}

// TestDrawnSequences has long sequences of entries, some of which cannot be applied.
func TestDrawnSequences(t *testing.T) {
	applied, refused := 0, 0
	for seed := range 60 {
		draw := random(seed)
		var all stories
		var j api.Journal
		for range 150 {
			next := wantEither(t, &all, j, drawnEntry(draw, j))
			if sameJournal(next, j) {
				refused++
			} else {
				applied++
			}
			j = next
			for part := range 4 {
				if log := all[part].log(); len(log.Live) > 0 {
					last := log.Live[len(log.Live)-1]
					if End(j, part) != last.End || Last(j, part) != last.ID {
						t.Fatalf("seed %d: End %d, Last %d, not %v", seed, End(j, part), Last(j, part), last)
					}
				} else if End(j, part) != log.Base || Last(j, part) != log.Gone {
					t.Fatalf("seed %d: End %d, Last %d, not %v", seed, End(j, part), Last(j, part), log)
				}
			}
		}
	}
	if applied < 1000 || refused < 1000 {
		t.Errorf("%d are applied, %d refused", applied, refused)
	}
}

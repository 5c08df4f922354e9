package seal

import (
	"math"
	"slices"
	"testing"

	"winnower/api"
)

// badHeads are heads that are not valid, most of them by one thing.
func badHeads() map[string]api.Segment {
	return map[string]api.Segment{
		"the zero head":          {},
		"a Part below":           head(-1, 1, 0, 10),
		"a Part far below":       head(math.MinInt, 1, 0, 10),
		"a Part above":           head(4, 1, 0, 10),
		"a Part of 2^32":         head(1<<32, 1, 0, 10),
		"a Part far above":       head(math.MaxInt, 1, 0, 10),
		"an ID of 0":             head(0, 0, 0, 10),
		"an ID below":            head(0, -1, 0, 10),
		"an ID far below":        head(0, math.MinInt, 0, 10),
		"an ID above":            head(0, 1<<30+1, 0, 10),
		"an ID of 2^32 and 1":    head(0, 1<<32+1, 0, 10),
		"an ID far above":        head(0, math.MaxInt, 0, 10),
		"a Start below":          head(0, 1, -1, 10),
		"a Start far below":      head(0, 1, math.MinInt, 10),
		"a Start and End below":  head(0, 1, -2, -1),
		"an End before Start":    head(0, 1, 5, 4),
		"an End of 0":            head(0, 1, 1, 0),
		"an End below":           head(0, 1, 0, -1),
		"an End far below":       head(0, 1, 0, math.MinInt),
		"an End above":           head(0, 1, 0, farthest+1),
		"an End far above":       head(0, 1, 0, math.MaxInt),
		"a Start and End above":  head(0, 1, farthest+1, farthest+1),
		"Start and End far away": head(0, 1, math.MaxInt, math.MaxInt),
		"Start above End":        head(0, 1, farthest, farthest-1),
		"a Start far above":      head(0, 1, math.MaxInt, math.MinInt),
	}
}

// goodHeads are heads that are valid, many of them just so.
func goodHeads() []api.Segment {
	return []api.Segment{
		head(0, 1, 0, 10), head(3, 1, 0, 10), head(1, 2, 3, 4), head(0, 1<<30, 0, 10), head(3, 1<<30-1, 0, 10),
		head(2, 7, 0, 0), head(2, 7, 0, 1), head(2, 7, 5, 5), head(2, 7, 5, 6), head(0, 1, 0, farthest),
		head(0, 1, 0, farthest-1), head(0, 1, farthest, farthest), head(0, 1, farthest-1, farthest), head(3, 1<<30, farthest-5, farthest),
	}
}

func TestBuildOfHeads(t *testing.T) {
	for _, x := range goodHeads() {
		wantBuild(t, two(0), x, nil, nil)
		wantBuild(t, two(-1), x, [][]api.Value{}, []int{})
		if x.End == x.Start {
			wantError(t, two(0), x, paired([2]int{1, 2}), []int{x.Start}, api.ErrArg)
			continue
		}
		wantBuild(t, two(0), x, paired([2]int{1, 2}), []int{x.Start})
		wantBuild(t, two(0), x, paired([2]int{1, 2}), []int{x.End - 1})
	}
}

func TestBuildOfInvalidHeads(t *testing.T) {
	for name, x := range badHeads() {
		t.Run(name, func(t *testing.T) {
			for _, s := range []api.Schema{two(-1), two(0)} {
				wantError(t, s, x, nil, nil, api.ErrArg)
				for _, offset := range []int{0, 1, 4, 5, -1, farthest, x.Start, x.End - 1} {
					wantError(t, s, x, paired([2]int{1, 2}), []int{offset}, api.ErrArg)
				}
			}
		})
	}
}

func TestBuildOfOffsets(t *testing.T) {
	x, l := head(1, 2, 5, 10), paired([2]int{2, 0}, [2]int{1, 1}, [2]int{2, 2})
	for name, c := range map[string]struct {
		offsets []int
		e       api.Errno
	}{
		"from Start on":         {[]int{5, 6, 7}, api.OK},
		"to End":                {[]int{7, 8, 9}, api.OK},
		"both ends":             {[]int{5, 7, 9}, api.OK},
		"none":                  {nil, api.ErrArg},
		"fewer":                 {[]int{5, 6}, api.ErrArg},
		"more":                  {[]int{5, 6, 7, 8}, api.ErrArg},
		"same at first":         {[]int{6, 6, 7}, api.ErrArg},
		"same at last":          {[]int{5, 7, 7}, api.ErrArg},
		"all the same":          {[]int{6, 6, 6}, api.ErrArg},
		"same, with one apart":  {[]int{6, 7, 6}, api.ErrArg},
		"decreasing":            {[]int{9, 8, 7}, api.ErrArg},
		"decreasing at last":    {[]int{5, 9, 8}, api.ErrArg},
		"decreasing at first":   {[]int{7, 6, 9}, api.ErrArg},
		"the first below Start": {[]int{4, 5, 6}, api.ErrArg},
		"the last at End":       {[]int{5, 6, 10}, api.ErrArg},
		"the last beyond End":   {[]int{5, 6, 11}, api.ErrArg},
		"one beyond, not last":  {[]int{5, 10, 9}, api.ErrArg},
		"all below":             {[]int{0, 1, 2}, api.ErrArg},
		"all beyond":            {[]int{10, 11, 12}, api.ErrArg},
		"negative":              {[]int{-3, -2, -1}, api.ErrArg},
		"far below":             {[]int{math.MinInt, 6, 7}, api.ErrArg},
		"far beyond":            {[]int{5, 6, math.MaxInt}, api.ErrArg},
		"farther than far":      {[]int{5, math.MaxInt, math.MinInt}, api.ErrArg},
		"increasing by a turn":  {[]int{5, 6, 7 + math.MinInt}, api.ErrArg},
	} {
		t.Run(name, func(t *testing.T) {
			for _, s := range []api.Schema{two(-1), two(0), two(1)} {
				if c.e == api.OK {
					wantBuild(t, s, x, l, c.offsets)
					continue
				}
				wantError(t, s, x, l, c.offsets, c.e)
			}
		})
	}
	wantError(t, two(0), x, nil, []int{5}, api.ErrArg)
	wantError(t, two(0), x, l[:1], []int{4}, api.ErrArg)
	wantError(t, two(0), x, l[:1], []int{10}, api.ErrArg)
	wantBuild(t, two(0), x, l[:1], []int{5})
	wantBuild(t, two(0), x, l[:1], []int{9})
}

// TestBuildOfAllShortOffsets has all lists of up to three offsets around a short range.
func TestBuildOfAllShortOffsets(t *testing.T) {
	x := head(0, 1, 1, 4)
	for list := range 6 * 6 * 6 * 4 {
		var offsets []int
		for range list % 4 {
			offsets = append(offsets, list/4%6)
			list = list%4 + list/4/6*4
		}
		l := slices.Repeat(paired([2]int{1, 2}), len(offsets))
		good := true
		for i, o := range offsets {
			good = good && o >= 1 && o <= 3 && (i == 0 || offsets[i-1] < o)
		}
		if good {
			wantBuild(t, two(0), x, l, offsets)
		} else {
			wantError(t, two(0), x, l, offsets, api.ErrArg)
		}
	}
}

// many are count rows that fit the schema two.
func many(count int) [][]api.Value {
	var l [][]api.Value
	for i := range count {
		l = append(l, integers(i*7919%count, i%100))
	}
	return l
}

func TestBuildAtTheLimit(t *testing.T) {
	x := head(0, 1, 0, farthest)
	for sort := -1; sort < 2; sort++ {
		for _, count := range []int{0, 1, 4095, 4096} {
			wantBuild(t, two(sort), x, many(count), from(3, count, 2))
			wantBuild(t, two(sort), x, many(count), from(farthest-count, count, 1))
		}
		for _, count := range []int{4097, 4098, 8192, 65537} {
			wantError(t, two(sort), x, many(count), from(3, count, 2), api.ErrLong)
			wantError(t, two(sort), x, many(count), from(farthest-count, count, 1), api.ErrLong)
		}
	}
	same := slices.Repeat(paired([2]int{1, 2}), 4097)
	wantBuild(t, two(0), x, same[:4096], from(0, 4096, 1))
	wantError(t, two(0), x, same, from(0, 4097, 1), api.ErrLong)
}

// TestBuildWithBothErrors has too many rows, and something else that is wrong.
func TestBuildWithBothErrors(t *testing.T) {
	x, l, offsets := head(0, 1, 10, 10+4097), many(4097), from(10, 4097, 1)
	wantError(t, two(0), x, l, offsets, api.ErrLong)
	for name, s := range badSchemas() {
		t.Run(name, func(t *testing.T) { wantError(t, s, x, l, offsets, api.ErrArg) })
	}
	for name, x := range badHeads() {
		t.Run(name, func(t *testing.T) { wantError(t, two(0), x, l, offsets, api.ErrArg) })
	}
	for _, at := range []int{0, 1, 2048, 4095, 4096} {
		for _, row := range [][]api.Value{nil, integers(1), integers(1, 2, 3), {integer(1), null()}, {str("a"), integer(1)}} {
			unfit := slices.Clone(l)
			unfit[at] = row
			wantError(t, two(0), x, unfit, offsets, api.ErrArg)
		}
	}
	for _, count := range []int{0, 1, 4096, 4098} {
		wantError(t, two(0), head(0, 1, 0, farthest), l, from(10, count, 1), api.ErrArg)
	}
	wantError(t, two(0), x, l[:4096], offsets, api.ErrArg)
	for _, at := range []int{1, 2048, 4095, 4096} {
		wrong := slices.Clone(offsets)
		wrong[at] = wrong[at-1]
		wantError(t, two(0), x, l, wrong, api.ErrArg)
		wrong[at] = 10 + 4097
		wantError(t, two(0), x, l, wrong, api.ErrArg)
	}
	wantError(t, two(0), x, l, from(9, 4097, 1), api.ErrArg)
	wantError(t, two(0), x, l, from(11, 4097, 1), api.ErrArg)
}

// TestBuildTakesTheHeadAlone has an x with offsets and columns, also ones that are not valid.
func TestBuildTakesTheHeadAlone(t *testing.T) {
	l, offsets := paired([2]int{2, 0}, [2]int{1, 1}), []int{5, 8}
	other := built(t, mixed(0), head(0, 1, 0, 9), [][]api.Value{{integer(3), str("x")}, {integer(2), null()}, {integer(4), str("y")}}, []int{1, 2, 3})
	for _, c := range []struct {
		offsets []int
		cols    []api.Column
	}{
		{nil, nil}, {[]int{}, []api.Column{}}, {other.Offsets, other.Cols}, {[]int{-1, 7, 7}, nil}, {nil, other.Cols},
		{other.Offsets, []api.Column{{N: -1}, {N: 5, Ids: []byte{1}}}}, {from(0, 5000, 1), make([]api.Column, 9)},
	} {
		for sort := -1; sort < 2; sort++ {
			x := head(2, 3, 4, 9)
			x.Offsets, x.Cols = c.offsets, c.cols
			wantBuild(t, two(sort), x, l, offsets)
			wantBuild(t, two(sort), x, nil, nil)
			x.ID = 0
			wantError(t, two(sort), x, l, offsets, api.ErrArg)
		}
	}
}

func TestBuildOfEveryKindOfColumn(t *testing.T) {
	l := [][]api.Value{
		rowOfAll(),
		{integer(0), integer(0), str(""), str(""), boolean(false), boolean(false), integer(0), boolean(false)},
		{integer(1), integer(1), str("1"), str("1"), boolean(true), boolean(true), integer(1), boolean(true)},
		{integer(math.MinInt), integer(math.MaxInt), str("\x00"), str("\xff"), boolean(true), null(), integer(1 << 53), boolean(true)},
		{integer(-1), null(), str(letters(64)), null(), boolean(false), boolean(false), integer(1<<53 + 1), boolean(false)},
		rowOfAll(),
	}
	for sort := -1; sort < 8; sort++ {
		wantBuild(t, all(sort), head(0, 1, 0, 100), l, []int{0, 3, 4, 50, 98, 99})
	}
}

func TestDrawnBuilds(t *testing.T) {
	for seed := range 300 {
		draw := random(seed)
		s := []api.Schema{two(0), mixed(0), all(0), one(1 + draw(3))}[seed%4]
		s.Sort = draw(len(s.Cols)+1) - 1
		start := draw(2) * (farthest - 4000)
		l := drawnRows(draw, s, draw(60), 1+draw(80))
		offsets := drawnOffsets(draw, start, len(l))
		wantBuild(t, s, head(draw(4), 1+draw(1000), start, start+4000), l, offsets)
	}
}

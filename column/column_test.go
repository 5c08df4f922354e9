package column

import (
	"bytes"
	"maps"
	"math"
	"slices"
	"strings"
	"testing"

	"winnower/api"
	"winnower/bitset"
	"winnower/value"
)

func null() api.Value          { return api.Value{Kind: api.Null} }
func integer(n int) api.Value  { return api.Value{Kind: api.Int, I: n} }
func str(s string) api.Value   { return api.Value{Kind: api.Str, S: s} }
func boolean(b bool) api.Value { return api.Value{Kind: api.Bool, B: b} }
func letters(count int) string { return strings.Repeat("x", count) }

func integers(l ...int) []api.Value {
	var out []api.Value
	for _, n := range l {
		out = append(out, integer(n))
	}
	return out
}

// upto are the integers from 0 to count - 1, which are their own indices.
func upto(count int) []api.Value {
	out := make([]api.Value, count)
	for i := range out {
		out[i] = integer(i)
	}
	return out
}

// rising are valid values of all four kinds, each before the next one.
func rising() []api.Value {
	l := append([]api.Value{null()}, integers(math.MinInt, -65, -1, 0, 1, 2, 63, 64, 1<<53, 1<<53+1, math.MaxInt)...)
	for _, s := range []string{"", "\x00", "\x00\x00", "1", "10", "2", "A", "a", "a\x00", "aa", "b", letters(63), letters(64), "é", "\xff"} {
		l = append(l, str(s))
	}
	return append(l, boolean(false), boolean(true))
}

// invalid are values that are not valid. Most of them differ from a valid one by one field.
func invalid() []api.Value {
	return []api.Value{
		{Kind: -1}, {Kind: 4}, {Kind: math.MinInt}, {Kind: math.MaxInt}, {Kind: 256 + api.Int, I: 7},
		{I: 1}, {S: "a"}, {B: true},
		{Kind: api.Int, I: 7, S: "a"}, {Kind: api.Int, I: 7, B: true},
		{Kind: api.Str, S: "a", I: 1}, {Kind: api.Str, S: "a", B: true}, {Kind: api.Str, S: letters(65)},
		{Kind: api.Bool, B: true, I: 1}, {Kind: api.Bool, B: true, S: "a"},
	}
}

// from are the numbers from first to below end.
func from(first, end int) []int {
	var out []int
	for i := first; i < end; i++ {
		out = append(out, i)
	}
	return out
}

// random returns numbers from 0 to below a bound, which depend on seed alone.
func random(seed int) func(bound int) int {
	state := uint64(seed)
	return func(bound int) int {
		state = state*6364136223846793005 + 1442695040888963407
		return int((state >> 33) % uint64(bound))
	}
}

// drawn are count values, each one of the first kinds of rising or of its other end.
func drawn(seed, count, kinds int) []api.Value {
	draw, all := random(seed), rising()
	if seed%2 == 1 {
		slices.Reverse(all)
	}
	l := make([]api.Value, count)
	for i := range l {
		l[i] = all[draw(min(kinds, len(all)))]
	}
	return l
}

// scattered are all of count integers, more than once if there are more rows, and in no order.
func scattered(rows, count int) []api.Value {
	l := make([]api.Value, rows)
	for i := range l {
		l[i] = integer(i*7919%count*3 - count)
	}
	return l
}

// lists are lists of values from which columns can be built.
func lists() map[string][]api.Value {
	out := map[string][]api.Value{
		"no value":           nil,
		"an integer":         integers(7),
		"Null alone":         {null()},
		"an empty string":    {str("")},
		"false":              {boolean(false)},
		"example":            integers(7, 3, 7),
		"same value, twice":  integers(-5, -5),
		"same value, often":  slices.Repeat(integers(9), 1000),
		"Null, often":        slices.Repeat([]api.Value{null()}, 4096),
		"Null and one":       {null(), integer(4)},
		"one and Null":       {str("a"), null(), null()},
		"Null among others":  {integer(2), null(), integer(1), null(), integer(2)},
		"Null first":         {null(), boolean(true), boolean(false)},
		"Null last":          {str("b"), str("a"), null()},
		"look alike":         {integer(0), boolean(false), str(""), null(), str("0"), integer(1), boolean(true), str("1")},
		"all kinds":          rising(),
		"rising":             integers(1, 2, 3, 4, 5),
		"falling":            integers(5, 4, 3, 2, 1),
		"cycle of three":     integers(20, 30, 10),
		"4095 values":        scattered(4095, 4095),
		"4096 values":        scattered(4096, 4096),
		"4096 rows, 17":      scattered(4096, 17),
		"4096 same values":   slices.Repeat([]api.Value{str(letters(64))}, 4096),
		"4096 rows and true": append(scattered(4095, 2048), boolean(true)),
	}
	return out
}

// different is l, each value once, placed behind all that are before it.
func different(l []api.Value) []api.Value {
	var out []api.Value
	is := map[api.Value]int{}
	for _, v := range l {
		if is[v]++; is[v] == 1 {
			out = append(out, v)
		}
	}
	slices.SortStableFunc(out, value.Order)
	return out
}

// packed are the bits of the numbers, width of each, least significant first, eight to a byte.
func packed(numbers []int, width int) []byte {
	var digits []int
	for _, n := range numbers {
		for range width {
			digits = append(digits, n%2)
			n /= 2
		}
	}
	out := make([]byte, (len(digits)+7)/8)
	for i, d := range digits {
		out[i/8] += byte(d << (i % 8))
	}
	return out
}

// bitsOf is the least width with which count different numbers can be told apart.
func bitsOf(count int) int {
	w := 0
	for 1<<w < count {
		w++
	}
	return w
}

// numbersOf are the indices in l of the elements of values.
func numbersOf(l, values []api.Value) []int {
	index := map[api.Value]int{}
	for i, v := range values {
		index[v] = i
	}
	var out []int
	for _, v := range l {
		out = append(out, index[v])
	}
	return out
}

// model is the column of l by the definition.
func model(l []api.Value) api.Column {
	values := different(l)
	return api.Column{N: len(l), Dict: values, Ids: packed(numbersOf(l, values), bitsOf(len(values)))}
}

func sameColumn(a, b api.Column) bool {
	return a.N == b.N && slices.Equal(a.Dict, b.Dict) && bytes.Equal(a.Ids, b.Ids)
}

func isZero(c api.Column) bool {
	return c.N == 0 && len(c.Dict) == 0 && len(c.Ids) == 0
}

// copied is a column that shares nothing with c.
func copied(c api.Column) api.Column {
	return api.Column{N: c.N, Dict: slices.Clone(c.Dict), Ids: bytes.Clone(c.Ids)}
}

// built is the column of l, which Build does not refuse.
func built(t *testing.T, l []api.Value) api.Column {
	t.Helper()
	c, e := Build(l)
	if e != api.OK {
		t.Fatalf("Build of %d values: error %d", len(l), e)
	}
	return c
}

// wantRows checks that the rows of s are those of l.
func wantRows(t *testing.T, s bitset.Set, l []int) {
	t.Helper()
	if got := slices.Collect(s.All()); !slices.Equal(got, l) {
		t.Fatalf("rows %v, not %v", got, l)
	}
}

// wantValues checks that c is valid and that its rows have the values l.
func wantValues(t *testing.T, c api.Column, l []api.Value) {
	t.Helper()
	if !May(c) {
		t.Fatalf("%d rows, Dict %#v, Ids %v: not valid", c.N, c.Dict, c.Ids)
	}
	if got := Values(c); !slices.Equal(got, l) {
		t.Fatalf("Values: %#v, not %#v", got, l)
	}
	// Not each of many rows, because each At checks the whole column.
	for i := 0; i < len(l); i += 1 + len(l)/100 {
		wantAt(t, c, i, l[i], true)
	}
	if len(l) > 0 {
		wantAt(t, c, len(l)-1, l[len(l)-1], true)
	}
	for _, i := range []int{math.MinInt, -4096, -2, -1, len(l), len(l) + 1, len(l) + 8, 4096, 4097, 1 << 40, math.MaxInt} {
		wantAt(t, c, i, api.Value{}, false)
	}
}

func wantAt(t *testing.T, c api.Column, i int, v api.Value, there bool) {
	t.Helper()
	if got, ok := At(c, i); got != v || ok != there {
		t.Fatalf("At %d: %#v, %t, not %#v, %t", i, got, ok, v, there)
	}
}

func wantEnds(t *testing.T, c api.Column, first, last api.Value, there bool) {
	t.Helper()
	if v, w, ok := Ends(c); v != first || w != last || ok != there {
		t.Errorf("Ends: %#v, %#v, %t, not %#v, %#v, %t", v, w, ok, first, last, there)
	}
}

func TestExample(t *testing.T) {
	c := built(t, integers(7, 3, 7))
	if !sameColumn(c, api.Column{N: 3, Dict: integers(3, 7), Ids: []byte{5}}) {
		t.Errorf("%#v", c)
	}
	wantRows(t, Range(c, 1, 2), []int{0, 2})
	wantRows(t, Range(c, 0, 1), []int{1})
}

func TestBuild(t *testing.T) {
	for name, l := range lists() {
		t.Run(name, func(t *testing.T) {
			c := built(t, l)
			if want := model(l); !sameColumn(c, want) {
				t.Fatalf("%#v, not %#v", c, want)
			}
			wantValues(t, c, l)
		})
	}
}

func TestBuildOfNothing(t *testing.T) {
	for _, l := range [][]api.Value{nil, {}, make([]api.Value, 0, 9)} {
		c := built(t, l)
		if c.N != 0 || len(c.Dict) != 0 || len(c.Ids) != 0 {
			t.Errorf("%#v", c)
		}
		wantValues(t, c, nil)
	}
}

func TestBuildOfOneValue(t *testing.T) {
	for _, v := range rising() {
		for _, count := range []int{1, 2, 7, 8, 9, 4096} {
			l := slices.Repeat([]api.Value{v}, count)
			c := built(t, l)
			if !sameColumn(c, api.Column{N: count, Dict: []api.Value{v}}) {
				t.Fatalf("%d of %#v: %#v", count, v, c)
			}
			wantValues(t, c, l)
		}
	}
}

func TestBuildOfRandomValues(t *testing.T) {
	for seed := range 300 {
		l := drawn(seed, seed%70, 1+seed%40)
		c := built(t, l)
		if want := model(l); !sameColumn(c, want) {
			t.Fatalf("seed %d: %#v, not %#v", seed, c, want)
		}
		wantValues(t, c, l)
	}
}

func TestWidthFollowsTheDict(t *testing.T) {
	for _, d := range []struct{ count, width int }{
		{1, 0}, {2, 1}, {3, 2}, {4, 2}, {5, 3}, {8, 3}, {9, 4}, {16, 4}, {17, 5}, {255, 8}, {256, 8}, {257, 9}, {2048, 11}, {2049, 12}, {4095, 12}, {4096, 12},
	} {
		c := built(t, scattered(d.count, d.count))
		if len(c.Dict) != d.count || len(c.Ids) != (d.count*d.width+7)/8 {
			t.Errorf("%d values: Dict of %d and %d bytes, not %d bits for each", d.count, len(c.Dict), len(c.Ids), d.width)
		}
	}
}

// refuses checks that Build returns the error and nothing else.
func refuses(t *testing.T, l []api.Value, want api.Errno) {
	t.Helper()
	if c, e := Build(l); e != want || !isZero(c) {
		t.Errorf("Build of %d values: %d rows, Dict of %d, %d bytes, error %d, not %d", len(l), c.N, len(c.Dict), len(c.Ids), e, want)
	}
}

func TestBuildRefusesInvalidValues(t *testing.T) {
	for _, bad := range invalid() {
		refuses(t, []api.Value{bad}, api.ErrArg)
		for _, count := range []int{2, 5, 4096} {
			for _, at := range []int{0, count / 2, count - 1} {
				l := scattered(count, min(count, 100))
				l[at] = bad
				refuses(t, l, api.ErrArg)
			}
		}
		refuses(t, []api.Value{bad, bad}, api.ErrArg)
		// More values than a dictionary takes, the invalid one behind them.
		l := upto(4096)
		l[4095] = bad
		refuses(t, l, api.ErrArg)
	}
}

func TestBuildRefusesTooManyValues(t *testing.T) {
	for _, count := range []int{4097, 4098, 8192, 65536, 65537} {
		refuses(t, upto(count), api.ErrLong)
		refuses(t, make([]api.Value, count), api.ErrLong)
		for _, bad := range invalid() {
			for _, at := range []int{0, 1, 4095, 4096, count - 1} {
				l := upto(count)
				l[at] = bad
				refuses(t, l, api.ErrLong)
			}
		}
	}
}

// badCounts are columns whose N is not in range, or does not go with the Dict.
func badCounts() map[string]api.Column {
	two := integers(3, 7)
	return map[string]api.Column{
		"N -1":                        {N: -1, Dict: two, Ids: []byte{5}},
		"N -1, no value":              {N: -1},
		"N -8, two values":            {N: -8, Dict: two},
		"least N":                     {N: math.MinInt},
		"least N, one value":          {N: math.MinInt, Dict: integers(1)},
		"least N, two values":         {N: math.MinInt, Dict: two, Ids: []byte{2}},
		"N 4097":                      {N: 4097, Dict: integers(1)},
		"N 4097 of two values":        {N: 4097, Dict: two, Ids: append(bytes.Repeat([]byte{1}, 512), 1)},
		"N 4097 of 4097 values":       {N: 4097, Dict: upto(4097), Ids: packed(from(0, 4097), 13)},
		"N 65536":                     {N: 65536, Dict: integers(1)},
		"N 65537 of 65537 values":     {N: 65537, Dict: upto(65537), Ids: packed(from(0, 65537), 17)},
		"greatest N":                  {N: math.MaxInt, Dict: integers(1)},
		"greatest N, two values":      {N: math.MaxInt, Dict: two, Ids: []byte{2}},
		"no value":                    {N: 1},
		"no values":                   {N: 3},
		"no values, 4096 rows":        {N: 4096},
		"no values, and Ids":          {N: 3, Ids: []byte{5}},
		"no values, and Ids of zeros": {N: 3, Ids: []byte{0}},
		"no rows":                     {N: 0, Dict: integers(7)},
		"no rows of Null":             {N: 0, Dict: []api.Value{null()}},
		"no rows of two":              {N: 0, Dict: two},
		"no rows of two, and Ids":     {N: 0, Dict: two, Ids: []byte{0}},
		"more values than rows":       {N: 2, Dict: integers(1, 2, 3), Ids: packed([]int{0, 2}, 2)},
		"one value too many":          {N: 4095, Dict: upto(4096), Ids: packed(from(0, 4095), 12)},
		"4097 values":                 {N: 4096, Dict: upto(4097), Ids: packed(from(0, 4096), 13)},
		"70000 values":                {N: 4096, Dict: upto(70000), Ids: packed(from(0, 4096), 17)},
		"70000 values, great numbers": {N: 4096, Dict: upto(70000), Ids: packed(from(65000, 69096), 17)},
	}
}

// badDicts are columns whose Dict is not valid.
func badDicts() map[string]api.Column {
	out := map[string]api.Column{
		"Dict falls":                    {N: 3, Dict: integers(7, 3), Ids: []byte{5}},
		"Dict falls at its end":         {N: 3, Dict: integers(1, 3, 2), Ids: []byte{36}},
		"Dict has a value twice":        {N: 3, Dict: integers(3, 3), Ids: []byte{5}},
		"Dict has its last value twice": {N: 3, Dict: integers(1, 3, 3), Ids: []byte{36}},
		"Dict has Null twice":           {N: 2, Dict: []api.Value{null(), null()}, Ids: []byte{2}},
		"Null is not first":             {N: 2, Dict: []api.Value{integer(1), null()}, Ids: []byte{2}},
		"kinds fall":                    {N: 2, Dict: []api.Value{boolean(true), str("a")}, Ids: []byte{2}},
	}
	for i, v := range invalid() {
		letter := string(rune('a' + i))
		out["value "+letter+" alone"] = api.Column{N: 2, Dict: []api.Value{v}}
		out["value "+letter+" first"] = api.Column{N: 2, Dict: []api.Value{v, boolean(true)}, Ids: []byte{2}}
		out["value "+letter+" last"] = api.Column{N: 2, Dict: []api.Value{null(), v}, Ids: []byte{2}}
	}
	return out
}

// badIds are columns whose Ids are not those of such rows and values.
func badIds() map[string]api.Column {
	two, three := integers(3, 7), integers(1, 2, 3)
	out := map[string]api.Column{
		"Ids are missing":                {N: 3, Dict: two},
		"Ids are empty":                  {N: 3, Dict: two, Ids: []byte{}},
		"Ids are too short":              {N: 9, Dict: two, Ids: []byte{5}},
		"Ids are too long":               {N: 3, Dict: two, Ids: []byte{5, 0}},
		"Ids are too long, not zeros":    {N: 3, Dict: two, Ids: []byte{5, 1}},
		"Ids of one value":               {N: 3, Dict: integers(7), Ids: []byte{0}},
		"Ids of one value, not zeros":    {N: 3, Dict: integers(7), Ids: []byte{7}},
		"Ids of no value":                {N: 0, Ids: []byte{0}},
		"Ids of greater width":           {N: 4, Dict: two, Ids: packed([]int{1, 0, 1, 0}, 3)},
		"Ids of greater width, one byte": {N: 3, Dict: two, Ids: packed([]int{1, 0, 1}, 2)},
		"Ids of smaller width":           {N: 5, Dict: three, Ids: packed([]int{1, 0, 1, 0, 1}, 1)},
		"Ids of eight bits":              {N: 3, Dict: two, Ids: []byte{1, 0, 1}},
		"Ids from the other end":         {N: 3, Dict: two, Ids: []byte{5 << 5}},
		"number 3 of three":              {N: 4, Dict: three, Ids: packed([]int{0, 1, 2, 3}, 2)},
		"number 3 first":                 {N: 4, Dict: three, Ids: packed([]int{3, 0, 1, 2}, 2)},
		"number 5 of five":               {N: 6, Dict: upto(5), Ids: packed([]int{0, 1, 2, 3, 4, 5}, 3)},
		"number 7 of five":               {N: 6, Dict: upto(5), Ids: packed([]int{0, 1, 7, 2, 3, 4}, 3)},
		"number 511 of 257":              {N: 258, Dict: upto(257), Ids: packed(append(from(0, 257), 511), 9)},
		"no row has the first":           {N: 3, Dict: two, Ids: []byte{7}},
		"no row has the last":            {N: 3, Dict: two, Ids: []byte{0}},
		"no row has the middle":          {N: 3, Dict: three, Ids: packed([]int{0, 2, 0}, 2)},
		"no row has Null":                {N: 2, Dict: []api.Value{null(), integer(1)}, Ids: []byte{3}},
	}
	for bit := 3; bit < 8; bit++ {
		out["bit "+string(rune('0'+bit))+" is not 0"] = api.Column{N: 3, Dict: two, Ids: []byte{5 + 1<<bit}}
	}
	return out
}

// bad are columns that are not valid.
func bad() map[string]api.Column {
	out := badCounts()
	maps.Copy(out, badDicts())
	maps.Copy(out, badIds())
	return out
}

func TestInvalidColumns(t *testing.T) {
	for name, c := range bad() {
		t.Run(name, func(t *testing.T) {
			if May(c) {
				t.Error("May: true")
			}
			if l := Values(c); len(l) != 0 {
				t.Errorf("Values: %#v", l)
			}
			for _, i := range []int{math.MinInt, -1, 0, 1, 2, c.N - 1, c.N, c.N + 1, 4095, math.MaxInt} {
				wantAt(t, c, i, api.Value{}, false)
			}
			for _, high := range []int{-1, 0, 1, 2, 100, math.MaxInt} {
				for _, low := range []int{math.MinInt, -1, 0, 1, 2} {
					wantRows(t, Range(c, low, high), nil)
				}
			}
			wantEnds(t, c, api.Value{}, api.Value{}, false)
			if b, e := Put(c); e != api.ErrArg || len(b) != 0 {
				t.Errorf("Put: %v, %d", b, e)
			}
		})
	}
}

// columns are a few kinds of valid columns, which may be built in other ways than by Build.
func columns() map[string]api.Column {
	return map[string]api.Column{
		"zero value":       {},
		"empty slices":     {Dict: []api.Value{}, Ids: []byte{}},
		"one row":          {N: 1, Dict: integers(7)},
		"empty Ids":        {N: 1, Dict: integers(7), Ids: []byte{}},
		"4096 rows of one": {N: 4096, Dict: integers(7)},
		"4096 rows of two": {N: 4096, Dict: integers(3, 7), Ids: append(bytes.Repeat([]byte{0}, 511), 128)},
		"Null":             {N: 3, Dict: []api.Value{null()}},
		"eight rows":       {N: 8, Dict: integers(3, 7), Ids: []byte{254}},
		"nine rows":        {N: 9, Dict: integers(3, 7), Ids: []byte{255, 0}},
		"4096 values":      {N: 4096, Dict: upto(4096), Ids: packed(from(0, 4096), 12)},
	}
}

func TestValidColumns(t *testing.T) {
	for name, c := range columns() {
		if !May(c) {
			t.Errorf("%s: not valid", name)
		}
		if l := Values(c); len(l) != c.N {
			t.Errorf("%s: %d values", name, len(l))
		}
		again := built(t, Values(c))
		if !sameColumn(c, again) {
			t.Errorf("%s: built again %#v", name, again)
		}
	}
	wantValues(t, columns()["eight rows"], integers(3, 7, 7, 7, 7, 7, 7, 7))
	wantValues(t, columns()["nine rows"], integers(7, 7, 7, 7, 7, 7, 7, 7, 3))
}

// all passes each list of count numbers that are less than bound to take.
func all(count, bound int, take func(numbers []int)) {
	numbers := make([]int, count)
	for {
		take(numbers)
		i := 0
		for i < count && numbers[i] == bound-1 {
			numbers[i] = 0
			i++
		}
		if i == count {
			return
		}
		numbers[i]++
	}
}

// validIds are the Ids, as texts, of all valid columns of rows rows and count values.
func validIds(rows, count int) map[string]int {
	out := map[string]int{}
	if rows > 0 && count == 0 {
		return out
	}
	all(rows, count, func(numbers []int) {
		is := map[int]int{}
		for _, n := range numbers {
			is[n]++
		}
		if len(is) == count {
			out[string(packed(numbers, bitsOf(count)))]++
		}
	})
	return out
}

// TestMayOfAllSmallColumns has all columns of few rows and values with Ids of at most a byte,
// and, for some, all Ids of two bytes.
func TestMayOfAllSmallColumns(t *testing.T) {
	for rows := range 7 {
		for count := range 6 {
			valid, c := validIds(rows, count), api.Column{N: rows, Dict: upto(count)}
			for size := range 3 {
				if size == 2 && (rows < 4 || count < 3) {
					continue
				}
				all(size, 256, func(ids []int) {
					c.Ids = packed(ids, 8)
					if May(c) != (valid[string(c.Ids)] > 0) {
						t.Errorf("%d rows, %d values, Ids %v: %t", rows, count, c.Ids, May(c))
					}
				})
			}
		}
	}
}

func TestRange(t *testing.T) {
	for seed := range 60 {
		l := drawn(seed, 5+seed, 1+seed%12)
		c := built(t, l)
		numbers, count := numbersOf(l, c.Dict), len(c.Dict)
		bounds := []int{math.MinInt, math.MinInt + 1, -2, -1, 0, 1, 2, 3, count / 2, count - 1, count, count + 1, 4096, 65536, math.MaxInt - 1, math.MaxInt}
		for _, low := range bounds {
			for _, high := range bounds {
				var want []int
				for i, n := range numbers {
					if n >= low && n < high {
						want = append(want, i)
					}
				}
				wantRows(t, Range(c, low, high), want)
			}
		}
	}
}

func TestRangeBounds(t *testing.T) {
	c := built(t, integers(30, 10, 20, 10, 40))
	for _, r := range []struct {
		low, high int
		rows      []int
	}{
		{0, 4, []int{0, 1, 2, 3, 4}}, {0, 5, []int{0, 1, 2, 3, 4}}, {-1, 4, []int{0, 1, 2, 3, 4}}, {-1, 100, []int{0, 1, 2, 3, 4}},
		{0, 1, []int{1, 3}}, {1, 2, []int{2}}, {2, 3, []int{0}}, {3, 4, []int{4}}, {3, 9, []int{4}}, {1, 3, []int{0, 2}},
		{-5, 1, []int{1, 3}}, {-5, 0, nil}, {-5, -1, nil}, {4, 5, nil}, {4, 9, nil}, {5, 4, nil},
		{0, 0, nil}, {1, 1, nil}, {4, 4, nil}, {2, 1, nil}, {3, 0, nil}, {4, 0, nil}, {math.MaxInt, math.MinInt, nil},
	} {
		wantRows(t, Range(c, r.low, r.high), r.rows)
	}
}

func TestRangeOfFewAndMany(t *testing.T) {
	none := built(t, nil)
	wantRows(t, Range(none, math.MinInt, math.MaxInt), nil)
	wantRows(t, Range(none, 0, 1), nil)
	same := built(t, make([]api.Value, 4096))
	if s := Range(same, 0, 1); !bitset.Same(s, bitset.Upto(4096)) {
		t.Errorf("Null, 4096 times: %d rows", s.Count())
	}
	wantRows(t, Range(same, 1, 2), nil)
	many := built(t, upto(4096))
	wantRows(t, Range(many, 4095, 4096), []int{4095})
	wantRows(t, Range(many, 4096, 4097), nil)
	if s := Range(many, 100, 4000); !bitset.Same(s, bitset.Upto(4000).And(bitset.Upto(100).Not(4096))) {
		t.Errorf("4096 values: %d rows", s.Count())
	}
}

func TestEnds(t *testing.T) {
	zero := api.Value{}
	for _, c := range []struct {
		l           []api.Value
		first, last api.Value
		there       bool
	}{
		{nil, zero, zero, false},
		{[]api.Value{null()}, zero, zero, false},
		{[]api.Value{null(), null(), null()}, zero, zero, false},
		{[]api.Value{null(), integer(4)}, integer(4), integer(4), true},
		{[]api.Value{integer(4), null(), integer(4)}, integer(4), integer(4), true},
		{[]api.Value{null(), integer(0)}, integer(0), integer(0), true},
		{[]api.Value{null(), str("")}, str(""), str(""), true},
		{[]api.Value{null(), boolean(false)}, boolean(false), boolean(false), true},
		{[]api.Value{null(), integer(4), integer(-4)}, integer(-4), integer(4), true},
		{integers(7), integer(7), integer(7), true},
		{integers(0), integer(0), integer(0), true},
		{[]api.Value{str("")}, str(""), str(""), true},
		{[]api.Value{boolean(false)}, boolean(false), boolean(false), true},
		{integers(7, 7, 7), integer(7), integer(7), true},
		{integers(7, 3, 7), integer(3), integer(7), true},
		{integers(3, 9, 1, 5), integer(1), integer(9), true},
		{[]api.Value{boolean(true), str("a"), null(), integer(5)}, integer(5), boolean(true), true},
		{[]api.Value{str("b"), str("a"), str("c")}, str("a"), str("c"), true},
		{rising(), integer(math.MinInt), boolean(true), true},
		{rising()[1:], integer(math.MinInt), boolean(true), true},
		{upto(4096), integer(0), integer(4095), true},
	} {
		wantEnds(t, built(t, c.l), c.first, c.last, c.there)
	}
}

// spare is l with room behind it that has other values.
func spare(l []api.Value) []api.Value {
	out := slices.Concat(l, []api.Value{str("behind"), str("behind")})
	return out[:len(l)]
}

func spoil(l []api.Value) {
	l = l[:cap(l)]
	for i := range l {
		l[i] = str("spoilt")
	}
}

func spoilBytes(b []byte) {
	b = b[:cap(b)]
	for i := range b {
		b[i] ^= 255
	}
}

func TestBuildSharesNothing(t *testing.T) {
	for name, l := range lists() {
		given := spare(l)
		c := built(t, given)
		if !slices.Equal(given[:cap(given)][:len(l)+2], spare(l)[:len(l)+2]) {
			t.Errorf("%s: Build changed its argument", name)
		}
		spoil(given)
		if !sameColumn(c, model(l)) {
			t.Errorf("%s: a change of the argument changed the column to %#v", name, c)
		}
		given = slices.Clone(l)
		c, other := built(t, given), built(t, given)
		spoil(c.Dict)
		spoilBytes(c.Ids)
		if !slices.Equal(given, l) || !sameColumn(other, model(l)) {
			t.Errorf("%s: a change of the column changed something else", name)
		}
	}
}

func TestValuesAndAtShareNothing(t *testing.T) {
	for name, l := range lists() {
		c := model(l)
		given := copied(c)
		values, others := Values(given), Values(given)
		var first api.Value
		if len(l) > 0 {
			first, _ = At(given, 0)
		}
		if !sameColumn(given, c) {
			t.Errorf("%s: the argument has changed", name)
		}
		spoil(values)
		if !sameColumn(given, c) || !slices.Equal(others, l) {
			t.Errorf("%s: a change of the values changed something else", name)
		}
		spoil(given.Dict)
		spoilBytes(given.Ids)
		if !slices.Equal(others, l) || len(l) > 0 && first != l[0] {
			t.Errorf("%s: a change of the column changed its values", name)
		}
	}
}

func TestRangeAndEndsShareNothing(t *testing.T) {
	for name, l := range lists() {
		c := model(l)
		given := copied(c)
		s := Range(given, 0, 1)
		rows := slices.Collect(s.All())
		first, last, _ := Ends(given)
		May(given)
		if !sameColumn(given, c) {
			t.Errorf("%s: the argument has changed", name)
		}
		was, is := first, last
		spoil(given.Dict)
		spoilBytes(given.Ids)
		if !slices.Equal(slices.Collect(s.All()), rows) || first != was || last != is {
			t.Errorf("%s: a change of the column changed a result", name)
		}
	}
}

// FuzzBuild builds columns of any values and asks for all of them.
func FuzzBuild(f *testing.F) {
	f.Add([]byte{7, 3, 7, 0, 1})
	f.Add([]byte{200, 12, 90})
	f.Fuzz(func(t *testing.T, choices []byte) {
		choices = choices[:min(len(choices), 300)]
		some := slices.Concat(rising(), rising(), rising(), invalid())
		var l []api.Value
		for _, c := range choices {
			l = append(l, some[int(c)%len(some)])
		}
		if slices.ContainsFunc(l, func(v api.Value) bool { return !value.May(v) }) {
			refuses(t, l, api.ErrArg)
			return
		}
		c := built(t, l)
		if !sameColumn(c, model(l)) {
			t.Fatalf("%#v, not %#v", c, model(l))
		}
		wantValues(t, c, l)
	})
}

package schema

import (
	"math"
	"reflect"
	"slices"
	"strings"
	"testing"

	"winnower/api"
)

func null() api.Value          { return api.Value{Kind: api.Null} }
func integer(n int) api.Value  { return api.Value{Kind: api.Int, I: n} }
func str(s string) api.Value   { return api.Value{Kind: api.Str, S: s} }
func boolean(b bool) api.Value { return api.Value{Kind: api.Bool, B: b} }
func letters(count int) string { return strings.Repeat("x", count) }

// bare is a schema of these columns, without a key and a column to sort by.
func bare(cols ...api.Col) api.Schema {
	return api.Schema{Cols: cols, Key: -1, Cmp: -1, Del: -1, Sort: -1}
}

// example is the schema of the chapter's examples.
func example() api.Schema {
	return bare(api.Col{Name: "k", Kind: api.Int}, api.Col{Name: "v", Kind: api.Str, Null: true})
}

// all has every kind of column, nullable and not, and two more that are not nullable.
func all() api.Schema {
	return bare(
		api.Col{Name: "i", Kind: api.Int}, api.Col{Name: "i_null", Kind: api.Int, Null: true},
		api.Col{Name: "s", Kind: api.Str}, api.Col{Name: "s_null", Kind: api.Str, Null: true},
		api.Col{Name: "b", Kind: api.Bool}, api.Col{Name: "b_null", Kind: api.Bool, Null: true},
		api.Col{Name: "i2", Kind: api.Int}, api.Col{Name: "b2", Kind: api.Bool},
	)
}

// keyed is s with these numbers of columns.
func keyed(s api.Schema, key, cmp, del, sort int) api.Schema {
	s.Key, s.Cmp, s.Del, s.Sort = key, cmp, del, sort
	return s
}

// many is a schema of so many columns with different names.
func many(count int) api.Schema {
	var cols []api.Col
	for i := range count {
		cols = append(cols, api.Col{Name: strings.Repeat(string(rune('a'+i%26)), 1+i/26%16), Kind: api.Int + i%3, Null: i%2 == 1})
	}
	return bare(cols...)
}

// badSchemas are schemas that are not valid: all but the first one only by what the name tells.
func badSchemas() map[string]api.Schema {
	key := keyed(all(), 0, 6, 4, 3)
	l := map[string]api.Schema{
		"the zero schema":            {},
		"no column":                  bare(),
		"9 columns":                  many(9),
		"a name of no byte":          bare(api.Col{Name: "", Kind: api.Int}),
		"a name of 17 bytes":         bare(api.Col{Name: letters(17), Kind: api.Int}),
		"a capital letter":           bare(api.Col{Name: "aB", Kind: api.Int}),
		"a space":                    bare(api.Col{Name: "a b", Kind: api.Int}),
		"two columns of one name":    bare(api.Col{Name: "a", Kind: api.Int}, api.Col{Name: "a", Kind: api.Str}),
		"a column of kind Null":      bare(api.Col{Name: "a", Kind: api.Null}),
		"a column of kind Null, too": bare(api.Col{Name: "a", Kind: api.Null, Null: true}),
		"a kind below":               bare(api.Col{Name: "a", Kind: -1}),
		"a kind above":               bare(api.Col{Name: "a", Kind: 4}),
	}
	for name, c := range map[string][4]int{
		"Cmp without Key":      {-1, 0, -1, -1},
		"Del without Key":      {-1, -1, 4, -1},
		"Key below":            {-2, 6, 4, 3},
		"Key below, alone":     {-2, -1, -1, -1},
		"Key above":            {8, 6, 4, 3},
		"Key nullable":         {1, 6, 4, 3},
		"Cmp missing":          {0, -1, 4, 3},
		"Cmp and Del missing":  {0, -1, -1, 3},
		"Cmp below":            {0, -2, 4, 3},
		"Cmp above":            {0, 8, 4, 3},
		"Cmp nullable":         {0, 1, 4, 3},
		"Cmp of strings":       {0, 2, 4, 3},
		"Cmp of truths":        {0, 4, 4, 3},
		"Del below":            {0, 6, -2, 3},
		"Del above":            {0, 6, 8, 3},
		"Del nullable":         {0, 6, 5, 3},
		"Del of integers":      {0, 6, 0, 3},
		"Del of strings":       {0, 6, 2, 3},
		"Sort below":           {0, 6, 4, -2},
		"Sort above":           {0, 6, 4, 8},
		"Sort above, no key":   {-1, -1, -1, 8},
		"Sort below, no key":   {-1, -1, -1, -2},
		"zeros, Del not Bool":  {0, 0, 0, 0},
		"Key the least number": {math.MinInt, 6, 4, 3},
	} {
		l[name] = keyed(key, c[0], c[1], c[2], c[3])
	}
	return l
}

func TestMayOfValidSchemas(t *testing.T) {
	for name, s := range map[string]api.Schema{
		"the example":              example(),
		"every kind":               all(),
		"a key":                    keyed(all(), 0, 6, 4, 3),
		"a key and no Del":         keyed(all(), 0, 6, -1, -1),
		"a key that Cmp is too":    keyed(all(), 0, 0, -1, -1),
		"a key that Del is too":    keyed(all(), 4, 0, 4, -1),
		"a key of strings":         keyed(all(), 2, 0, 7, 2),
		"a key in the last column": keyed(all(), 7, 6, 7, 7),
		"Sort without a key":       keyed(all(), -1, -1, -1, 0),
		"Sort that is nullable":    keyed(all(), -1, -1, -1, 1),
		"Sort that is the key":     keyed(all(), 0, 6, 4, 0),
		"all numbers are 0":        keyed(bare(api.Col{Name: "a", Kind: api.Int}), 0, 0, -1, 0),
	} {
		if !May(s) {
			t.Errorf("%s may not be", name)
		}
	}
}

func TestMayOfInvalidSchemas(t *testing.T) {
	for name, s := range badSchemas() {
		if May(s) {
			t.Errorf("%s may be", name)
		}
	}
}

func TestMayCountsColumns(t *testing.T) {
	for _, count := range []int{0, 1, 2, 7, 8, 9, 10, 16, 100, 416} {
		if got, want := May(many(count)), count >= 1 && count <= 8; got != want {
			t.Errorf("May of %d columns: %v", count, got)
		}
	}
}

func TestMayCountsBytesOfNames(t *testing.T) {
	for _, count := range []int{0, 1, 2, 15, 16, 17, 18, 32, 100, 100000} {
		want := count >= 1 && count <= 16
		if got := May(bare(api.Col{Name: letters(count), Kind: api.Int})); got != want {
			t.Errorf("May of a name of %d bytes: %v", count, got)
		}
		if got := May(bare(api.Col{Name: "a", Kind: api.Int}, api.Col{Name: letters(count), Kind: api.Str})); got != want {
			t.Errorf("May of a second name of %d bytes: %v", count, got)
		}
	}
}

func TestMayKnowsTheSignsOfNames(t *testing.T) {
	const signs = "abcdefghijklmnopqrstuvwxyz0123456789_"
	for c := range 256 {
		sign := string([]byte{byte(c)})
		want := strings.Contains(signs, sign)
		for _, name := range []string{sign, "a" + sign, sign + "a", "0" + sign + "_", letters(15) + sign, sign + letters(15)} {
			if got := May(bare(api.Col{Name: name, Kind: api.Int})); got != want {
				t.Errorf("May of the name %q: %v", name, got)
			}
		}
	}
	for _, name := range []string{"é", "aé", "日本", "\u0131", "a\u200b", "\u0661", "\uff41", "a-b", "a.b", "A", "Z", "_A", "name ", "\n"} {
		if May(bare(api.Col{Name: name, Kind: api.Int})) {
			t.Errorf("the name %q may be", name)
		}
	}
	for _, name := range []string{"_", "__", "0", "9", "00", "a_1", "_a", "0123456789abcdef", "ghijklmnopqrstuv", "wxyz_"} {
		if !May(bare(api.Col{Name: name, Kind: api.Int})) {
			t.Errorf("the name %q may not be", name)
		}
	}
}

func TestMayRefusesEqualNames(t *testing.T) {
	for i := range 8 {
		for k := range 8 {
			s := many(8)
			s.Cols[i].Name = s.Cols[k].Name
			if got := May(s); got != (i == k) {
				t.Errorf("May with one name for the columns %d and %d: %v", i, k, got)
			}
		}
	}
	if !May(bare(api.Col{Name: "a", Kind: api.Int}, api.Col{Name: "aa", Kind: api.Int}, api.Col{Name: "a_", Kind: api.Int})) {
		t.Errorf("names that begin alike may not be")
	}
}

func TestMayKnowsTheKindsOfColumns(t *testing.T) {
	for _, kind := range []int{math.MinInt, -257, -256, -2, -1, 0, 1, 2, 3, 4, 5, 255, 256, 257, 1 << 32, 1<<32 + 1, math.MaxInt} {
		for i := range 8 {
			for _, nullable := range []bool{false, true} {
				s := many(8)
				s.Cols[i].Kind, s.Cols[i].Null = kind, nullable
				if got, want := May(s), kind == api.Int || kind == api.Str || kind == api.Bool; got != want {
					t.Errorf("May of a column %d of kind %d: %v", i, kind, got)
				}
			}
		}
	}
}

// The columns of the schema all: those that are not nullable, and of these, those of integers and of truths.
func TestMayHoldsTheNumbersOfColumns(t *testing.T) {
	full, ints, truths := []int{0, 2, 4, 6, 7}, []int{0, 6}, []int{4, 7}
	numbers := []int{math.MinInt, -3, -2, -1, 0, 1, 2, 3, 4, 5, 6, 7, 8, 9, math.MaxInt}
	for _, key := range numbers {
		for _, cmp := range numbers {
			for _, del := range numbers {
				keyMay := key == -1 && cmp == -1 && del == -1 ||
					slices.Contains(full, key) && slices.Contains(ints, cmp) && (del == -1 || slices.Contains(truths, del))
				for _, sort := range numbers {
					sortMay := sort >= -1 && sort <= 7
					if got := May(keyed(all(), key, cmp, del, sort)); got != (keyMay && sortMay) {
						t.Fatalf("May of Key %d, Cmp %d, Del %d, Sort %d: %v", key, cmp, del, sort, got)
					}
				}
			}
		}
	}
}

// The numbers are held against the columns that there are, not against how many there may be.
func TestMayOfNumbersInOneColumn(t *testing.T) {
	number, truth := api.Col{Name: "a", Kind: api.Int}, api.Col{Name: "a", Kind: api.Bool}
	for _, c := range []struct {
		s    api.Schema
		want bool
	}{
		{keyed(bare(number), 0, 0, -1, 0), true}, {keyed(bare(number), 1, 0, -1, 0), false}, {keyed(bare(number), 0, 1, -1, 0), false},
		{keyed(bare(number), 0, 0, 1, 0), false}, {keyed(bare(number), 0, 0, -1, 1), false}, {keyed(bare(truth), 0, 0, 0, 0), false},
		{keyed(bare(), 0, 0, -1, 0), false}, {keyed(api.Schema{}, 0, 0, 0, 0), false},
	} {
		if got := May(c.s); got != c.want {
			t.Errorf("May of %#v: %v", c.s, got)
		}
	}
}

func TestFind(t *testing.T) {
	twice := bare(
		api.Col{Name: "b", Kind: api.Int}, api.Col{Name: "a", Kind: api.Int}, api.Col{Name: "", Kind: api.Int},
		api.Col{Name: "a", Kind: api.Str}, api.Col{Name: "B", Kind: 9}, api.Col{Name: "\xff", Kind: api.Int},
	)
	for _, c := range []struct {
		s    api.Schema
		name string
		want int
	}{
		{example(), "k", 0}, {example(), "v", 1}, {example(), "w", -1}, {example(), "", -1}, {example(), "K", -1}, {example(), "kv", -1},
		{example(), "k ", -1}, {example(), "k\x00", -1}, {example(), letters(1000), -1},
		{api.Schema{}, "k", -1}, {api.Schema{}, "", -1}, {bare(), "a", -1},
		{twice, "a", 1}, {twice, "b", 0}, {twice, "B", 4}, {twice, "", 2}, {twice, "\xff", 5}, {twice, "\xfe", -1}, {twice, "\ufffd", -1},
		{all(), "i", 0}, {all(), "i2", 6}, {all(), "b2", 7}, {all(), "i_null", 1}, {all(), "i_nul", -1}, {all(), "i_null_", -1},
		{many(9), "i", 8}, {many(100), "z", 25}, {many(100), "aa", 26}, {many(100), "vvvv", 99}, {many(100), "wwww", -1},
	} {
		if got := Find(c.s, c.name); got != c.want {
			t.Errorf("Find of %q in %d columns: %d, not %d", c.name, len(c.s.Cols), got, c.want)
		}
	}
}

func TestFindReturnsTheNumberOfEveryColumn(t *testing.T) {
	for count := range 9 {
		for i, c := range many(count).Cols {
			if got := Find(many(count), c.Name); got != i {
				t.Errorf("Find of the name %q of column %d: %d", c.Name, i, got)
			}
		}
	}
}

// samples are for each kind values that fit a column that is not nullable.
func samples() [][]api.Value {
	return [][]api.Value{
		api.Int:  {integer(0), integer(5), integer(-1), integer(64), integer(-8193), integer(math.MaxInt), integer(math.MinInt)},
		api.Str:  {str(""), str("a"), str("ab"), str("\x00"), str("\x01"), str("\xff\x80"), str("é"), str(letters(63)), str(letters(64))},
		api.Bool: {boolean(false), boolean(true)},
	}
}

// badValues are values that are not valid.
func badValues() []api.Value {
	return []api.Value{
		{Kind: api.Null, I: 1}, {Kind: api.Null, S: "a"}, {Kind: api.Null, B: true},
		{Kind: api.Int, I: 5, S: "a"}, {Kind: api.Int, B: true}, {Kind: api.Str, S: "a", I: 1}, {Kind: api.Str, B: true},
		{Kind: api.Str, S: letters(65)}, {Kind: api.Str, S: letters(1000)}, {Kind: api.Bool, B: true, I: 1}, {Kind: api.Bool, S: "a"},
		{Kind: -1}, {Kind: 4}, {Kind: 4, I: 4}, {Kind: math.MinInt}, {Kind: math.MaxInt, B: true},
	}
}

// row is a row that fits s, and the more so that its values change with the turn.
func row(s api.Schema, turn int) []api.Value {
	var out []api.Value
	for i, c := range s.Cols {
		if c.Null && turn>>i&1 == 1 {
			out = append(out, null())
			continue
		}
		l := samples()[c.Kind]
		out = append(out, l[(turn+i)%len(l)])
	}
	return out
}

func TestFitsOfRowsThatFit(t *testing.T) {
	for turn := range 256 {
		for _, s := range []api.Schema{example(), all(), keyed(all(), 0, 6, 4, 3), many(1), many(2), many(8)} {
			if !Fits(s, row(s, turn)) {
				t.Errorf("%#v does not fit", row(s, turn))
			}
		}
	}
	if !Fits(example(), []api.Value{integer(5), str("a")}) || !Fits(example(), []api.Value{integer(5), null()}) {
		t.Errorf("the rows of the examples do not fit")
	}
}

func TestFitsCountsValues(t *testing.T) {
	for _, s := range []api.Schema{example(), all(), many(1), many(8)} {
		fits := row(s, 0)
		for count := range len(fits) {
			if Fits(s, fits[:count]) {
				t.Errorf("%d values fit %d columns", count, len(s.Cols))
			}
		}
		for _, more := range []api.Value{null(), integer(0), str(""), boolean(false)} {
			if Fits(s, append(slices.Clone(fits), more)) || Fits(s, append([]api.Value{more}, fits...)) {
				t.Errorf("%d values fit %d columns", 1+len(fits), len(s.Cols))
			}
		}
		if Fits(s, nil) || Fits(s, []api.Value{}) || Fits(s, append(slices.Clone(fits), fits...)) {
			t.Errorf("no value, or two for each column, fit %d columns", len(s.Cols))
		}
	}
}

func TestFitsRefusesValues(t *testing.T) {
	for i := range all().Cols {
		for _, v := range badValues() {
			values := row(all(), 0)
			values[i] = v
			if Fits(all(), values) {
				t.Errorf("%#v fits column %d", v, i)
			}
		}
	}
}

func TestFitsHoldsKindsAgainstColumns(t *testing.T) {
	for i, c := range all().Cols {
		for kind, l := range samples() {
			for _, v := range l {
				values := row(all(), 0)
				values[i] = v
				if got, want := Fits(all(), values), kind == c.Kind; got != want {
					t.Errorf("Fits of %#v in column %d: %v", v, i, got)
				}
			}
		}
		values := row(all(), 0)
		values[i] = null()
		if got := Fits(all(), values); got != c.Null {
			t.Errorf("Fits of Null in column %d: %v", i, got)
		}
	}
}

// The values alone would fit, if one took the columns of a schema that is not valid as they are.
func TestFitsOfInvalidSchemas(t *testing.T) {
	for name, s := range badSchemas() {
		var values []api.Value
		for _, c := range s.Cols {
			values = append(values, api.Value{Kind: c.Kind})
		}
		if Fits(s, values) || Fits(s, nil) || Fits(s, []api.Value{}) {
			t.Errorf("%s has rows that fit", name)
		}
	}
}

// everySchema is valid schemas and such that are not.
func everySchema() []api.Schema {
	l := []api.Schema{example(), all(), keyed(all(), 0, 6, 4, 3), many(1), many(8)}
	for _, s := range badSchemas() {
		l = append(l, s)
	}
	return l
}

func TestArgumentsAreLeftAlone(t *testing.T) {
	for _, s := range everySchema() {
		was := s
		was.Cols = slices.Clone(s.Cols)
		values := make([]api.Value, len(s.Cols))
		for i, c := range s.Cols {
			values[i] = api.Value{Kind: c.Kind}
		}
		valuesWere := slices.Clone(values)
		b := []byte{0, 1, 2, 1, 97, 0, 1, 1, 2, 0}
		bytesWere := slices.Clone(b)
		May(s)
		Find(s, "a")
		Fits(s, values)
		Encode(s, values)
		Decode(s, b)
		if !reflect.DeepEqual(s, was) || !slices.Equal(values, valuesWere) || !slices.Equal(b, bytesWere) {
			t.Errorf("%#v, %#v and %v were changed to %#v, %#v and %v", was, valuesWere, bytesWere, s, values, b)
		}
	}
}

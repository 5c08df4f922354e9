package file

import (
	"bytes"
	"math"
	"slices"
	"testing"

	"winnower/api"
	"winnower/column"
	"winnower/num"
)

// small are examples whose files are short.
func small(t testing.TB) map[string]example {
	t.Helper()
	l := [][]api.Value{
		{integer(1), null(), str("a"), null(), boolean(false), null(), integer(-3), boolean(true)},
		{integer(math.MinInt), integer(0), str(""), str(""), boolean(true), boolean(false), integer(0), boolean(false)},
	}
	x := segmentOf(3, 300, 5, farthest)
	return map[string]example{
		"the sample":          {mixed(0), sample()},
		"no rows":             {one(-1, api.Int), built(t, one(-1, api.Int), x, nil, nil)},
		"no rows, 8 columns":  {all(2), built(t, all(2), x, nil, nil)},
		"two rows, 8 columns": {all(0), built(t, all(0), x, l, []int{1 << 20, farthest - 1})},
		"ten rows":            {one(-1, api.Bool), built(t, one(-1, api.Bool), x, slices.Repeat([][]api.Value{{boolean(true)}}, 10), from(5, 10, 1))},
	}
}

func TestDecodeOfEachBeginning(t *testing.T) {
	wantDecodeError(t, mixed(0), nil, api.ErrForm)
	wantDecodeError(t, mixed(0), []byte{}, api.ErrForm)
	for name, c := range small(t) {
		t.Run(name, func(t *testing.T) {
			b := encoded(t, c.s, c.x)
			for size := range b {
				wantDecodeError(t, c.s, b[:size], api.ErrForm)
				wantDecodeError(t, c.s, b[:size:size], api.ErrForm)
			}
		})
	}
}

func TestDecodeOfEachBeginningOfLongFiles(t *testing.T) {
	c := long(t, 2, 1, 65536)
	b := encoded(t, c.s, c.x)
	for size := 0; size < len(b); size += 1 + size%509 {
		wantDecodeError(t, c.s, b[:size], api.ErrForm)
	}
	for size := len(b) - 10; size < len(b); size++ {
		wantDecodeError(t, c.s, b[:size], api.ErrForm)
	}
	// Whole frames fewer.
	payloads := modelPayloads(c.x)
	for count := range payloads {
		wantDecodeError(t, c.s, file(payloads[:count]...), api.ErrForm)
		wantDecodeError(t, c.s, file(payloads[count+1:]...), api.ErrForm)
	}
}

func TestDecodeOfFilesWithMoreBehind(t *testing.T) {
	for name, c := range small(t) {
		t.Run(name, func(t *testing.T) {
			b := encoded(t, c.s, c.x)
			for more := range 256 {
				wantDecodeError(t, c.s, append(bytes.Clone(b), byte(more)), api.ErrForm)
			}
			payloads := modelPayloads(c.x)
			afters := [][]byte{b, slices.Concat(b, b), b[:1], b[:len(b)-1], make([]byte, 5), make([]byte, 4), make([]byte, 500), framed([]byte{1}), framed([]byte{0, 0})}
			for _, payload := range payloads {
				afters = append(afters, framed(payload), payload)
			}
			for _, after := range afters {
				wantDecodeError(t, c.s, slices.Concat(b, after), api.ErrForm)
				wantDecodeError(t, c.s, slices.Concat(after, b), api.ErrForm)
			}
		})
	}
}

// TestDecodeOfChangedFiles changes each byte of files to each other one.
func TestDecodeOfChangedFiles(t *testing.T) {
	for name, c := range small(t) {
		t.Run(name, func(t *testing.T) {
			b := encoded(t, c.s, c.x)
			for i := range b {
				for by := 1; by < 256; by++ {
					changed := bytes.Clone(b)
					changed[i] ^= byte(by)
					wantDecodeError(t, c.s, changed, api.ErrForm)
				}
				wantDecodeError(t, c.s, slices.Delete(bytes.Clone(b), i, i+1), api.ErrForm)
				wantDecodeError(t, c.s, slices.Insert(bytes.Clone(b), i, b[i]^1), api.ErrForm)
			}
		})
	}
}

// TestDecodeOfChangedPayloads changes each byte of the payloads to each other one, and frames them again.
func TestDecodeOfChangedPayloads(t *testing.T) {
	for name, c := range small(t) {
		t.Run(name, func(t *testing.T) {
			segments, others := 0, 0
			replace := func(k int, payload []byte) {
				payloads := modelPayloads(c.x)
				payloads[k] = payload
				if wantModel(t, c.s, file(payloads...)) {
					segments++
				} else {
					others++
				}
			}
			for k, payload := range modelPayloads(c.x) {
				for i := range payload {
					for by := 1; by < 256; by++ {
						changed := bytes.Clone(payload)
						changed[i] ^= byte(by)
						replace(k, changed)
					}
					replace(k, slices.Delete(bytes.Clone(payload), i, i+1))
					replace(k, slices.Insert(bytes.Clone(payload), i, 0))
					replace(k, payload[:i])
				}
			}
			if segments == 0 || others == 0 {
				t.Errorf("%d segments, %d others", segments, others)
			}
		})
	}
}

func TestDecodeOfHeads(t *testing.T) {
	payloads := modelPayloads(sample())
	with := func(heads ...byte) []byte {
		return file(append([][]byte{heads}, payloads[1:]...)...)
	}
	wantDecode(t, mixed(0), with(1, 2, 2, 9, 2), sample())
	for name, b := range map[string][]byte{
		"no number":             {},
		"a number":              {1},
		"a number fewer":        {1, 2, 2, 9},
		"a number fewer, Part":  {2, 2, 9, 2},
		"a number more":         {1, 2, 2, 9, 2, 0},
		"the count again":       {1, 2, 2, 9, 2, 2},
		"a byte behind":         {1, 2, 2, 9, 2, 255},
		"a digit behind":        {1, 2, 2, 9, 2, 128},
		"an unfinished number":  {1, 2, 2, 9, 130},
		"two digits for one":    {1, 2, 2, 9, 130, 0},
		"two digits for Part":   {129, 0, 2, 2, 9, 2},
		"two digits for Start":  {1, 2, 130, 0, 9, 2},
		"ten digits for End":    {1, 2, 2, 137, 128, 128, 128, 128, 128, 128, 128, 128, 0, 2},
		"eleven digits for End": {1, 2, 2, 137, 128, 128, 128, 128, 128, 128, 128, 128, 128, 0, 2},
		"no column":             {1, 2, 2, 9, 0},
		"a column":              {1, 2, 2, 9, 1},
		"three columns":         {1, 2, 2, 9, 3},
		"8 columns":             {1, 2, 2, 9, 8},
		"2^32 + 2 columns":      varints(1, 2, 2, 9, 1<<32+2),
		"very many columns":     varints(1, 2, 2, 9, math.MaxInt),
		"2^63 columns":          slices.Concat(varints(1, 2, 2, 9), bytes.Repeat([]byte{128}, 9), []byte{1}),
		"numbers as Put writes": {2, 4, 4, 18, 4},
		"another order":         {1, 2, 9, 2, 2},
		"the offsets":           payloads[1],
		"a column itself":       payloads[2],
	} {
		t.Run(name, func(t *testing.T) {
			wantDecodeError(t, mixed(0), with(b...), api.ErrForm)
			wantModel(t, mixed(0), with(b...))
		})
	}
	for name, bad := range badHeads() {
		t.Run(name, func(t *testing.T) {
			wantDecodeError(t, mixed(0), with(varints(bad.Part, bad.ID, bad.Start, bad.End, 2)...), api.ErrForm)
			var positive []byte
			for _, n := range []int{bad.Part, bad.ID, bad.Start, bad.End, 2} {
				positive = num.PutLen(positive, n)
			}
			wantDecodeError(t, mixed(0), with(positive...), api.ErrForm)
		})
	}
	for _, other := range []api.Segment{segmentOf(0, 2, 2, 9), segmentOf(3, 2, 2, 9), segmentOf(1, 1<<30, 2, 9), segmentOf(1, 2, 0, 9), segmentOf(1, 2, 3, 8), segmentOf(1, 2, 2, farthest)} {
		x := sample()
		x.Part, x.ID, x.Start, x.End = other.Part, other.ID, other.Start, other.End
		wantDecode(t, mixed(0), with(varints(x.Part, x.ID, x.Start, x.End, 2)...), x)
	}
}

// block is a block of this kind of these integers, be it the one that runs.Encode returns or not.
func block(kind byte, l ...int) []byte {
	out := num.PutLen([]byte{kind}, len(l))
	last := 0
	for _, n := range l {
		switch kind {
		case 0:
			out = num.Put(out, n)
		case 1:
			out = num.PutLen(num.Put(out, n), 1)
		case 2:
			out = num.Put(out, n-last)
		}
		last = n
	}
	return out
}

func TestDecodeOfOffsets(t *testing.T) {
	payloads := modelPayloads(sample())
	with := func(offsets []byte) []byte {
		return file(payloads[0], offsets, payloads[2], payloads[3])
	}
	wantDecode(t, mixed(0), with(block(0, 7, 3, 6, 4)), sample())
	for name, b := range map[string][]byte{
		"no byte":                 {},
		"a kind":                  {0},
		"a kind that is none":     {3, 4, 14, 6, 12, 8},
		"the last kind of a byte": {255, 4, 14, 6, 12, 8},
		"runs":                    block(1, 7, 3, 6, 4),
		"deltas":                  block(2, 7, 3, 6, 4),
		"a byte behind":           append(block(0, 7, 3, 6, 4), 0),
		"a digit behind":          append(block(0, 7, 3, 6, 4), 128),
		"a block behind":          append(block(0, 7, 3, 6, 4), block(0, 7, 3, 6, 4)...),
		"an empty block behind":   append(block(0, 7, 3, 6, 4), 0, 0),
		"no integer":              {0, 0},
		"an integer fewer":        block(0, 7, 3, 6),
		"an integer more":         block(0, 7, 3, 6, 4, 8),
		"a count more":            {0, 5, 14, 6, 12, 8},
		"a count fewer":           {0, 3, 14, 6, 12, 8},
		"a count of two digits":   {0, 132, 0, 14, 6, 12, 8},
		"a count too great":       append([]byte{0, 129, 32}, bytes.Repeat([]byte{4}, 4097)...),
		"a number of two digits":  {0, 4, 142, 0, 6, 12, 8},
		"numbers without a block": {7, 3, 6, 4},
		"an offset twice":         block(0, 7, 3, 7, 4),
		"a negative offset":       block(0, -7, 3, 6, 4),
		"another order":           block(0, 3, 7, 6, 4),
		"equal rows falling":      block(0, 7, 6, 3, 4),
		"a column":                payloads[2],
		"the head":                payloads[0],
	} {
		t.Run(name, func(t *testing.T) {
			wantDecodeError(t, mixed(0), with(b), api.ErrForm)
			wantModel(t, mixed(0), with(b))
		})
	}
	rising := built(t, one(-1, api.Bool), segmentOf(0, 1, 0, 1000), slices.Repeat([][]api.Value{{null()}}, 10), from(100, 10, 1))
	payloads = modelPayloads(rising)
	wantDecode(t, one(-1, api.Bool), file(payloads[0], block(2, rising.Offsets...), payloads[2]), rising)
	wantDecodeError(t, one(-1, api.Bool), file(payloads[0], block(0, rising.Offsets...), payloads[2]), api.ErrForm)
	wantDecodeError(t, one(-1, api.Bool), file(payloads[0], block(1, rising.Offsets...), payloads[2]), api.ErrForm)
	// Without offsets all kinds are of one length, and only the first is the block.
	none := segmentOf(0, 1, 0, 0)
	none.Cols = make([]api.Column, 1)
	for kind := range 4 {
		b := file(varints(0, 1, 0, 0, 1), []byte{byte(kind), 0}, []byte{0, 0})
		if kind == 0 {
			wantDecode(t, one(0, api.Int), b, none)
			continue
		}
		wantDecodeError(t, one(0, api.Int), b, api.ErrForm)
	}
}

func TestDecodeOfColumns(t *testing.T) {
	payloads := modelPayloads(sample())
	for k := range 2 {
		own := payloads[2+k]
		with := func(payload []byte) []byte {
			l := slices.Clone(payloads)
			l[2+k] = payload
			return file(l...)
		}
		wantDecode(t, mixed(0), with(own), sample())
		for name, b := range map[string][]byte{
			"no byte":           {},
			"a zero behind":     append(bytes.Clone(own), 0),
			"a byte behind":     append(bytes.Clone(own), 255),
			"itself behind":     append(bytes.Clone(own), own...),
			"a byte in front":   append([]byte{4}, own...),
			"a byte fewer":      own[:len(own)-1],
			"without Ids":       own[:len(own)-2],
			"no rows":           {0, 0},
			"a row":             {1, 1, 0},
			"rows of no value":  {4, 0},
			"too many rows":     {129, 32, 1, 0},
			"the other columns": payloads[3-k],
			"the offsets":       payloads[1],
			"the head":          payloads[0],
		} {
			t.Run(name, func(t *testing.T) {
				wantDecodeError(t, mixed(0), with(b), api.ErrForm)
				wantModel(t, mixed(0), with(b))
			})
		}
	}
}

// TestDecodeOfLists has the payloads of the sample in other lists than Encode makes of them.
func TestDecodeOfLists(t *testing.T) {
	all := modelPayloads(sample())
	heads := func(count int) []byte { return varints(1, 2, 2, 9, count) }
	wider := of(0, append(mixed(0).Cols, api.Col{Name: "t", Kind: api.Str, Null: true})...)
	for name, l := range map[string][][]byte{
		"none":                            {},
		"a head":                          {heads(2)},
		"a head of no columns":            {heads(0)},
		"no column":                       {heads(2), all[1]},
		"no column, counted":              {heads(0), all[1]},
		"a column fewer":                  {heads(2), all[1], all[2]},
		"a column fewer, counted":         {heads(1), all[1], all[2]},
		"the first column fewer":          {heads(2), all[1], all[3]},
		"the first column fewer, counted": {heads(1), all[1], all[3]},
		"a column more":                   {heads(2), all[1], all[2], all[3], all[3]},
		"a column more, counted":          {heads(3), all[1], all[2], all[3], all[3]},
		"a column more, wrongly counted":  {heads(4), all[1], all[2], all[3], all[3]},
		"an empty column more":            {heads(2), all[1], all[2], all[3], {0, 0}},
		"an empty column more, counted":   {heads(3), all[1], all[2], all[3], {0, 0}},
		"no byte more":                    {heads(2), all[1], all[2], all[3], {}},
		"no byte in front":                {{}, heads(2), all[1], all[2], all[3]},
		"no byte in the middle":           {heads(2), all[1], {}, all[2], all[3]},
		"no head":                         {all[1], all[2], all[3]},
		"no offsets":                      {heads(2), all[2], all[3]},
		"two heads":                       {heads(2), heads(2), all[1], all[2], all[3]},
		"a head behind":                   {all[1], all[2], all[3], heads(2)},
		"offsets twice":                   {heads(2), all[1], all[1], all[2], all[3]},
		"offsets behind":                  {heads(2), all[2], all[3], all[1]},
		"offsets in front":                {all[1], heads(2), all[2], all[3]},
		"columns that change places":      {heads(2), all[1], all[3], all[2]},
		"one payload of all":              {slices.Concat(all...)},
		"head and offsets in one":         {slices.Concat(heads(2), all[1]), all[2], all[3]},
		"columns in one":                  {heads(2), all[1], slices.Concat(all[2], all[3])},
		"offsets and column in one":       {heads(2), slices.Concat(all[1], all[2]), all[3]},
		"a number a payload":              {{1}, {2}, {2}, {9}, {2}, all[1], all[2], all[3]},
	} {
		t.Run(name, func(t *testing.T) {
			wantDecodeError(t, mixed(0), file(l...), api.ErrForm)
			for _, s := range []api.Schema{mixed(-1), one(0, api.Int), one(0, api.Str), wider} {
				wantModel(t, s, file(l...))
			}
		})
	}
	// Of a schema with so many columns some of them are files.
	x := sample()
	x.Cols = append(x.Cols, x.Cols[1])
	wantDecode(t, wider, file(heads(3), all[1], all[2], all[3], all[3]), x)
	x.Cols = x.Cols[:1]
	wantDecode(t, one(0, api.Int), file(heads(1), all[1], all[2]), x)
}

// TestDecodeOfFrames has the payloads of the sample in other bytes than frames one behind the other.
func TestDecodeOfFrames(t *testing.T) {
	l := modelPayloads(sample())
	for i := range l {
		before, after := file(l[:i]...), file(l[i+1:]...)
		b := framed(l[i])
		with := func(middle ...byte) []byte { return slices.Concat(before, middle, after) }
		wantDecode(t, mixed(0), with(b...), sample())
		wrong := bytes.Clone(b)
		wrong[len(b)-1]++
		turned := bytes.Clone(b)
		slices.Reverse(turned[len(b)-4:])
		for name, middle := range map[string][]byte{
			"no bytes": {}, "the payload alone": l[i], "without its length": b[1:], "without its checksum": b[:len(b)-4], "a byte fewer": b[:len(b)-1],
			"a wrong checksum": wrong, "a turned checksum": turned, "a byte in front": append([]byte{0}, b...), "a byte behind": append(bytes.Clone(b), 0),
			"an empty frame in front": append(make([]byte, 5), b...), "an empty frame behind": append(bytes.Clone(b), make([]byte, 5)...),
			"a length of two digits": append([]byte{b[0] + 128, 0}, b[1:]...), "the frame in a frame": framed(b),
		} {
			t.Run(name, func(t *testing.T) { wantDecodeError(t, mixed(0), with(middle...), api.ErrForm) })
		}
	}
}

func TestDecodeOfBrokenSegments(t *testing.T) {
	for name, x := range broken() {
		t.Run(name, func(t *testing.T) { wantDecodeError(t, mixed(0), file(modelPayloads(x)...), api.ErrForm) })
	}
}

func TestDecodeByOtherSchemas(t *testing.T) {
	n, text := api.Col{Name: "n", Kind: api.Int}, api.Col{Name: "s", Kind: api.Str, Null: true}
	nullable, filled, number := n, text, text
	nullable.Null, filled.Null, number.Kind = true, false, api.Int
	keyed := mixed(0)
	keyed.Key, keyed.Cmp = 0, 0
	b := encoded(t, mixed(0), sample())
	for _, s := range []api.Schema{of(0, n, text), of(0, nullable, text), of(0, api.Col{Name: "x", Kind: api.Int}, text), keyed} {
		wantDecode(t, s, b, sample())
	}
	for name, s := range map[string]api.Schema{
		"sorted by the other column": mixed(1),
		"not sorted":                 mixed(-1),
		"a column fewer":             of(0, n),
		"the first column fewer":     of(0, text),
		"a column more":              of(0, n, text, api.Col{Name: "t", Kind: api.Str, Null: true}),
		"8 columns":                  all(0),
		"columns that change places": of(0, text, n),
		"truths":                     of(0, api.Col{Name: "b", Kind: api.Bool}, text),
		"strings":                    of(0, api.Col{Name: "t", Kind: api.Str}, text),
		"integers":                   of(0, n, number),
		"no Null":                    of(0, n, filled),
	} {
		t.Run(name, func(t *testing.T) {
			wantDecodeError(t, s, b, api.ErrForm)
			// It is not the schema that is wrong.
			x := segmentOf(0, 1, 0, 0)
			x.Cols = make([]api.Column, len(s.Cols))
			wantEncode(t, s, x)
		})
	}
	// Without rows, the kinds of the columns and the order of the rows make no difference.
	none := segmentOf(1, 2, 2, 9)
	none.Cols = make([]api.Column, 2)
	b = encoded(t, mixed(0), none)
	for _, s := range []api.Schema{mixed(0), mixed(1), mixed(-1), of(0, text, n)} {
		wantDecode(t, s, b, none)
	}
	wantDecodeError(t, of(0, n), b, api.ErrForm)
	wantDecodeError(t, all(0), b, api.ErrForm)
}

func TestDecodeByInvalidSchemas(t *testing.T) {
	b := encoded(t, mixed(0), sample())
	none := file(varints(0, 1, 0, 0, 0), []byte{0, 0})
	for name, s := range badSchemas() {
		t.Run(name, func(t *testing.T) {
			empty := make([][]byte, len(s.Cols))
			for k := range empty {
				empty[k] = []byte{0, 0}
			}
			fitting := file(append([][]byte{varints(0, 1, 0, 0, len(empty)), {0, 0}}, empty...)...)
			for _, bytes := range [][]byte{nil, {}, {0}, {255, 1}, b, b[:len(b)-1], append(b[:len(b):len(b)], 0), none, fitting, make([]byte, 100)} {
				wantDecodeError(t, s, bytes, api.ErrArg)
			}
		})
	}
	// No schema without columns is valid, so that no segment without columns has a file.
	wantDecodeError(t, mixed(0), none, api.ErrForm)
}

func TestDecodeOfLongPayloads(t *testing.T) {
	for k := range 2 {
		y := long(t, 2, k, 65536)
		wantDecode(t, y.s, file(modelPayloads(y.x)...), y.x)
		for _, size := range []int{65537, 65538, 66000} {
			y := long(t, 2, k, size)
			wantDecodeError(t, y.s, file(modelPayloads(y.x)...), api.ErrForm)
		}
	}
}

// TestDecodeOfManyBytes has long bytes that are no file.
func TestDecodeOfManyBytes(t *testing.T) {
	same, _ := column.Put(columnOf(slices.Repeat(integers(7), 4096)...))
	begin := file(varints(0, 1, 0, 0, math.MaxInt), []byte{0, 0})
	for _, b := range [][]byte{
		make([]byte, 1<<20), bytes.Repeat([]byte{255}, 1<<20), bytes.Repeat(framed(same), 1<<16), append(begin, bytes.Repeat(framed(same), 1<<16)...),
		append(begin, make([]byte, 1<<20)...), bytes.Repeat(encoded(t, mixed(0), sample()), 1<<10),
	} {
		wantDecodeError(t, mixed(0), b, api.ErrForm)
		wantDecodeError(t, all(0), b, api.ErrForm)
	}
}

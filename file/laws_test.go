package file

import (
	"bytes"
	"reflect"
	"slices"
	"testing"

	"winnower/api"
	"winnower/seal"
)

// TestDrawnSegments finds each segment again in its file, and in no beginning of it.
func TestDrawnSegments(t *testing.T) {
	for seed := range 600 {
		s, x := drawnSegment(t, seed, 60)
		wantEncode(t, s, x)
		b := encoded(t, s, x)
		draw := random(seed + 1)
		for range 10 {
			wantDecodeError(t, s, b[:draw(len(b))], api.ErrForm)
			wantDecodeError(t, s, append(bytes.Clone(b), b[:1+draw(len(b))]...), api.ErrForm)
		}
	}
}

// TestOneChangeOfDrawnFiles changes a byte of a payload, or which payloads there are.
func TestOneChangeOfDrawnFiles(t *testing.T) {
	segments, others := 0, 0
	for seed := range 3000 {
		s, x := drawnSegment(t, seed, 20)
		payloads := modelPayloads(x)
		draw := random(seed + 1)
		k, l := draw(len(payloads)), draw(len(payloads))
		switch i := draw(len(payloads[k])); draw(6) {
		case 0:
			payloads[k][i] ^= byte(1 << draw(8))
		case 1:
			payloads[k][i] += byte(2*draw(2)) - 1
		case 2:
			payloads[k] = slices.Delete(payloads[k], i, i+1)
		case 3:
			payloads[k] = slices.Insert(payloads[k], i, byte(draw(4)))
		case 4:
			payloads[k], payloads[l] = payloads[l], payloads[k]
		case 5:
			payloads = slices.Insert(payloads, k, payloads[l])
		}
		if wantModel(t, s, file(payloads...)) {
			segments++
		} else {
			others++
		}
	}
	if segments < 100 || others < 100 {
		t.Errorf("%d segments, %d others", segments, others)
	}
}

// TestNoTwoSegmentsHaveOneFile has all segments of up to three rows of one column, with three
// values and four offsets, and some heads.
func TestNoTwoSegmentsHaveOneFile(t *testing.T) {
	values := []api.Value{null(), integer(1), integer(2)}
	s := one(-1, api.Int)
	files := map[string]api.Segment{}
	var each func(x api.Segment, l []api.Value)
	each = func(x api.Segment, l []api.Value) {
		x.Cols = []api.Column{columnOf(l...)}
		b := encoded(t, s, x)
		if other, there := files[string(b)]; there {
			t.Fatalf("%#v and %#v have one file", x, other)
		}
		files[string(b)] = x
		wantDecode(t, s, b, x)
		// By the only column the rows may be sorted too, and the file is the same then.
		if sorted := one(0, api.Int); seal.May(sorted, x) && !bytes.Equal(encoded(t, sorted, x), b) {
			t.Fatalf("%#v has two files", x)
		}
		if len(l) == 3 {
			return
		}
		last := x.Start - 1
		for _, offset := range x.Offsets {
			last = max(last, offset)
		}
		for offset := last + 1; offset < x.End; offset++ {
			for _, v := range values {
				y := x
				y.Offsets = append(slices.Clone(x.Offsets), offset)
				each(y, append(slices.Clone(l), v))
			}
		}
	}
	for _, head := range []api.Segment{segmentOf(0, 1, 0, 4), segmentOf(0, 1, 0, 5), segmentOf(0, 1, 1, 5), segmentOf(0, 2, 1, 5), segmentOf(1, 1, 1, 5), segmentOf(0, 1, 126, 130), segmentOf(1, 1, 126, 130)} {
		each(head, nil)
	}
	if len(files) < 1000 {
		t.Errorf("only %d files", len(files))
	}
}

// spare is a copy of l with room behind it, in which there are the elements of behind.
func spare[E any](l []E, behind ...E) []E {
	return append(slices.Clone(l), behind...)[:len(l)]
}

// spared is a copy of x whose lists all have room behind them.
func spared(x api.Segment) api.Segment {
	x.Offsets = spare(x.Offsets, -5, 7)
	x.Cols = spare(x.Cols, api.Column{N: 9}, api.Column{N: -9})
	whole := x.Cols[:cap(x.Cols)]
	for k, c := range whole {
		whole[k] = api.Column{N: c.N, Dict: spare(c.Dict, integer(8), str("z")), Ids: spare(c.Ids, 200, 100)}
	}
	return x
}

// whole is a copy of x with what lies behind its lists.
func whole(x api.Segment) api.Segment {
	x.Offsets = slices.Clone(x.Offsets[:cap(x.Offsets)])
	x.Cols = slices.Clone(x.Cols[:cap(x.Cols)])
	for k, c := range x.Cols {
		x.Cols[k] = api.Column{N: c.N, Dict: slices.Clone(c.Dict[:cap(c.Dict)]), Ids: bytes.Clone(c.Ids[:cap(c.Ids)])}
	}
	return x
}

// spoil changes all elements of l, and what lies behind them.
func spoil[E any](l []E, to E) {
	l = l[:cap(l)]
	for i := range l {
		l[i] = to
	}
}

func spoilColumn(c api.Column) {
	spoil(c.Dict, str("spoilt"))
	spoil(c.Ids, 0xAA)
}

func spoilSegment(x api.Segment) {
	spoil(x.Offsets, -77)
	for _, c := range x.Cols {
		spoilColumn(c)
	}
	spoil(x.Cols, api.Column{N: -1})
}

// TestArgumentsStay has calls with and without errors.
func TestArgumentsStay(t *testing.T) {
	for seed := range 200 {
		s, x := drawnSegment(t, seed, 40)
		b := spare(encoded(t, s, x), 1, 2, 3)
		b = b[:len(b)-seed%3]
		if seed%4 == 0 {
			x.ID = 0
		}
		x = spared(x)
		s.Cols = spare(s.Cols, api.Col{Name: "behind"})
		segment, bytesBehind, cols := whole(x), bytes.Clone(b[:cap(b)]), slices.Clone(s.Cols[:cap(s.Cols)])
		Encode(s, x)
		Decode(s, b)
		if !sameSegment(whole(x), segment) || !bytes.Equal(b[:cap(b)], bytesBehind) || !slices.Equal(s.Cols[:cap(s.Cols)], cols) {
			t.Fatalf("seed %d: what was handed in is changed", seed)
		}
	}
}

// TestChangesOfArguments changes what was handed in: what was answered stays.
func TestChangesOfArguments(t *testing.T) {
	for seed := range 200 {
		s, x := drawnSegment(t, seed, 40)
		want := file(modelPayloads(x)...)
		given, b := spared(x), spare(want, 1, 2, 3)
		out, _ := Encode(s, given)
		read, _ := Decode(s, b)
		spoilSegment(given)
		spoil(b, 0xAA)
		clear(s.Cols)
		if !bytes.Equal(out, want) {
			t.Fatalf("seed %d: a change of the segment changes its file", seed)
		}
		if !sameSegment(read, x) {
			t.Fatalf("seed %d: a change of the file changes the segment", seed)
		}
	}
}

// TestChangesOfResults changes what was answered: neither what was handed in nor a later answer changes.
func TestChangesOfResults(t *testing.T) {
	for seed := range 200 {
		s, x := drawnSegment(t, seed, 40)
		want := file(modelPayloads(x)...)
		given, b := spared(x), bytes.Clone(want)
		for range 2 {
			out, _ := Encode(s, given)
			spoil(out, 0xAA)
			read, _ := Decode(s, b)
			spoilSegment(read)
		}
		if !sameSegment(given, x) || !bytes.Equal(b, want) || !bytes.Equal(encoded(t, s, given), want) {
			t.Fatalf("seed %d: what was handed in is changed", seed)
		}
		wantDecode(t, s, b, x)
	}
}

// TestListsOfOneAnswerAreApart changes one list of an answer, and what lies behind it: the others stay.
func TestListsOfOneAnswerAreApart(t *testing.T) {
	for seed := range 200 {
		s, x := drawnSegment(t, seed, 40)
		b := encoded(t, s, x)
		read, _ := Decode(s, b)
		spoil(read.Offsets, -77)
		for k, c := range read.Cols {
			if !slices.EqualFunc(read.Cols[k:], x.Cols[k:], sameColumn) {
				t.Fatalf("seed %d: a change of a list before column %d changes others", seed, k)
			}
			spoil(c.Dict, str("spoilt"))
			if !bytes.Equal(c.Ids, x.Cols[k].Ids) {
				t.Fatalf("seed %d: a change of Dict changes Ids of column %d", seed, k)
			}
			spoil(c.Ids, 0xAA)
		}
		// From the last list on, as well.
		read, _ = Decode(s, b)
		for k, c := range slices.Backward(read.Cols) {
			spoil(c.Ids, 0xAA)
			if !slices.Equal(c.Dict, x.Cols[k].Dict) {
				t.Fatalf("seed %d: a change of Ids changes Dict of column %d", seed, k)
			}
			spoil(c.Dict, str("spoilt"))
			if !slices.EqualFunc(read.Cols[:k], x.Cols[:k], sameColumn) || !slices.Equal(read.Offsets, x.Offsets) {
				t.Fatalf("seed %d: a change of column %d changes others", seed, k)
			}
		}
	}
}

// TestSameCallsSameAnswers asks everything twice.
func TestSameCallsSameAnswers(t *testing.T) {
	for seed := range 100 {
		s, x := drawnSegment(t, seed, 40)
		again, y := drawnSegment(t, seed, 40)
		a, b := encoded(t, s, x), encoded(t, again, spared(y))
		read, _ := Decode(s, a)
		other, _ := Decode(again, b)
		if !bytes.Equal(a, b) || !reflect.DeepEqual(read, other) {
			t.Fatalf("seed %d: %#v, then %#v", seed, read, other)
		}
	}
}

// FuzzDecode frames payloads of any bytes: Decode returns what the model does.
func FuzzDecode(f *testing.F) {
	l := modelPayloads(sample())
	f.Add(l[0], l[1], l[2], l[3], []byte{})
	f.Add(l[0], l[1], l[2], l[3], []byte{0})
	f.Add(l[0], block(2, 7, 3, 6, 4), l[2], l[3], []byte{})
	f.Add([]byte{0, 1, 0, 0, 2}, []byte{0, 0}, []byte{0, 0}, []byte{0, 0}, []byte{})
	f.Add([]byte{0, 1, 0, 5, 2}, []byte{0, 1, 8}, []byte{1, 1, 1, 2}, []byte{1, 1, 0}, []byte{})
	f.Fuzz(func(t *testing.T, head, offsets, first, second, more []byte) {
		for _, s := range []api.Schema{mixed(-1), mixed(0), mixed(1), one(0, api.Int)} {
			wantModel(t, s, append(file(head, offsets, first, second), more...))
			wantModel(t, s, append(file(head, offsets, first), more...))
			wantModel(t, s, more)
		}
		wantDecodeError(t, api.Schema{}, more, api.ErrArg)
	})
}

package rows

import (
	"slices"
	"testing"

	"winnower/api"
)

// few has a column of integers and a nullable one of truths.
func few() api.Schema {
	return bare(api.Col{Name: "n", Kind: api.Int}, api.Col{Name: "b", Kind: api.Bool, Null: true})
}

// event is a row that is appended, and where.
type event struct {
	row    []api.Value
	offset int
}

// events are rows of few with all combinations of two values a column, and one that does not
// fit, each at three offsets.
func events() []event {
	var l []event
	for offset := range 3 {
		l = append(l, event{[]api.Value{null(), boolean(true)}, offset})
		for n := range 2 {
			l = append(l, event{[]api.Value{integer(n), null()}, offset}, event{[]api.Value{integer(n), boolean(n == 0)}, offset})
		}
	}
	return l
}

func TestAllShortSequences(t *testing.T) {
	l, rows := events(), 0
	for _, limits := range [][2]int{{1, 1}, {2, 1}, {2, 2}, {3, 1}, {3, 2}} {
		for sequence := range len(l) * len(l) * len(l) {
			p := empty(t, few(), limits[0], limits[1])
			for range 3 {
				next := l[sequence%len(l)]
				p.append(t, next.row, next.offset)
				p.compare(t)
				sequence /= len(l)
			}
			rows += p.r.Len()
		}
	}
	if rows == 0 {
		t.Error("no row was ever appended")
	}
}

// random returns numbers from 0 to below a bound, which depend on seed alone.
func random(seed int) func(bound int) int {
	state := uint64(seed)
	return func(bound int) int {
		state = state*6364136223846793005 + 1442695040888963407
		return int((state >> 33) % uint64(bound))
	}
}

// drawn is a value that c may have, one of some kinds.
func drawn(draw func(int) int, c api.Col, kinds int) api.Value {
	n := draw(kinds)
	switch {
	case c.Null && n == 0:
		return null()
	case c.Kind == api.Int:
		return integer((n - kinds/2) << (n % 40))
	case c.Kind == api.Str:
		return str(letters(n % 65))
	}
	return boolean(n%2 == 0)
}

// drawnEvent is mostly a row that may be appended, and else one with a wrong value or offset.
func drawnEvent(draw func(int) int, cols []api.Col, last, kinds int) event {
	var row []api.Value
	for _, c := range cols {
		row = append(row, drawn(draw, c, kinds))
	}
	offset := last + 1 + draw(3)
	switch draw(8) {
	case 0:
		row[draw(len(row))] = []api.Value{null(), integer(1), str(""), boolean(true), {Kind: 4}, {I: 1}}[draw(6)]
	case 1:
		row = append(row, row...)[:draw(2*len(row))]
	case 2:
		offset = last - draw(3)
	case 3:
		offset = []int{-1, 0, farthest + 1}[draw(3)]
	}
	return event{row, offset}
}

func TestDrawnSequences(t *testing.T) {
	errors := map[api.Errno]int{}
	for seed := range 60 {
		draw := random(seed)
		s := []api.Schema{one(), three(), all(), few()}[seed%4]
		p := empty(t, s, []int{1, 3, 20, 150}[draw(4)], []int{1, 2, 6, 30, 4096}[draw(5)])
		last, kinds := draw(2)*(farthest-200), 1+draw(40)
		for range 300 {
			next := drawnEvent(draw, s.Cols, last, kinds)
			e := p.append(t, next.row, next.offset)
			if errors[e]++; e == api.OK {
				last = next.offset
			}
			if draw(10) == 0 {
				p.compare(t)
			}
		}
		p.compare(t)
	}
	for _, e := range []api.Errno{api.OK, api.ErrArg, api.ErrState, api.ErrFull} {
		if errors[e] < 200 {
			t.Errorf("error %d came only %d times", e, errors[e])
		}
	}
}

// TestReadBack appends rows that may all be appended, and reads them by rows and by columns.
func TestReadBack(t *testing.T) {
	for seed, s := range []api.Schema{one(), three(), all(), few()} {
		draw := random(seed)
		r, _ := New(s, 4096, 4096)
		var rows [][]api.Value
		for i := range 1000 {
			var row []api.Value
			for _, c := range s.Cols {
				row = append(row, drawn(draw, c, 100))
			}
			rows = append(rows, row)
			if n, e := r.Append(row, i*i); n != i || e != api.OK {
				t.Fatalf("row %d: %d, error %d", i, n, e)
			}
		}
		for k := range s.Cols {
			l := r.Column(k)
			for i, row := range rows {
				got, offset, there := r.At(i)
				if l[i] != row[k] || !there || offset != i*i || !slices.Equal(got, row) {
					t.Fatalf("row %d, column %d: %v, %v at %d, %t, not %v", i, k, l[i], got, offset, there, row)
				}
			}
		}
	}
}

// FuzzAppend takes two bytes for an event: what the row is, and how far its offset is behind
// the last one.
func FuzzAppend(f *testing.F) {
	f.Add(byte(3), byte(2), []byte{0, 1, 1, 1, 2, 0, 3, 1})
	f.Add(byte(0), byte(0), []byte{7, 1, 7, 1, 255, 255, 130, 3})
	f.Add(byte(9), byte(3), []byte{65, 1, 65, 128, 65, 1, 66, 1, 67, 1, 68, 1})
	f.Fuzz(func(t *testing.T, most, values byte, b []byte) {
		p := empty(t, few(), 1+int(most)%64, 1+int(values)%64)
		last := -1
		for ; len(b) >= 2; b = b[2:] {
			row := []api.Value{integer(int(b[0] & 63)), []api.Value{null(), boolean(false), boolean(true), str("")}[b[0]>>6]}
			offset := last + int(int8(b[1]))
			if p.append(t, row, offset) == api.OK {
				last = offset
			}
		}
		p.compare(t)
	})
}

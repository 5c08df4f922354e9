package file

import (
	"winnower/api"
	"winnower/column"
	"winnower/frame"
	"winnower/num"
	"winnower/runs"
)

// list is the payloads of a file that are still to be read, with the segment as far as it was
// read from those before them.
type list struct {
	api.Segment
	payloads [][]byte
}

// read returns the segment of so many columns whose payloads b consists of, be it valid or
// not, and whether there is one. As nothing is read that could be written in another way, no
// other bytes have the same payloads.
func read(b []byte, columns int) (api.Segment, bool) {
	payloads, end := frame.Read(b)
	l := list{payloads: payloads}
	ok := end == len(b) && l.readHead(columns) && l.readOffsets() && l.readColumns(columns)
	return l.Segment, ok
}

// next removes the first payload from l and returns it. Behind the last one there are empty
// ones, from which nothing can be read.
func (l *list) next() []byte {
	if len(l.payloads) == 0 {
		return nil
	}
	payload := l.payloads[0]
	l.payloads = l.payloads[1:]
	return payload
}

func (l *list) readHead(columns int) bool {
	payload, count := l.next(), 0
	for _, field := range []*int{&l.Part, &l.ID, &l.Start, &l.End, &count} {
		n, digits, e := num.GetLen(payload)
		if e != api.OK {
			return false
		}
		*field, payload = n, payload[digits:]
	}
	return count == columns && len(payload) == 0
}

func (l *list) readOffsets() bool {
	payload := l.next()
	offsets, size, e := runs.Decode(payload)
	l.Offsets = offsets
	return e == api.OK && size == len(payload)
}

func (l *list) readColumns(count int) bool {
	// Held against count first, as other bytes may have very many payloads, to be read in vain.
	if len(l.payloads) != count {
		return false
	}
	for _, payload := range l.payloads {
		c, size, e := column.Get(payload)
		if e != api.OK || size != len(payload) {
			return false
		}
		l.Cols = append(l.Cols, c)
	}
	return true
}

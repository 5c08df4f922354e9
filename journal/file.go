package journal

import (
	"bytes"

	"winnower/api"
	"winnower/frame"
	"winnower/num"
)

// File returns the file with the number no and the entries l.
func File(no int, l []api.Entry) ([]byte, api.Errno) {
	if !mayNumber(no) || len(l) > api.MaxBlock {
		return nil, api.ErrArg
	}
	payloads := [][]byte{num.PutLen(num.PutLen(nil, no), len(l))}
	for _, x := range l {
		payload, e := Put(x)
		if e != api.OK {
			return nil, e
		}
		payloads = append(payloads, payload)
	}
	return framed(payloads)
}

func framed(payloads [][]byte) ([]byte, api.Errno) {
	var b []byte
	for _, payload := range payloads {
		one, e := frame.Seal(payload)
		if e != api.OK {
			return nil, e
		}
		b = append(b, one...)
	}
	return b, api.OK
}

// Read returns the journal of the file b, and whether b is a file with the number no.
func Read(no int, b []byte) (api.Journal, bool) {
	payloads, _ := frame.Read(b)
	if len(payloads) == 0 {
		return api.Journal{}, false
	}
	count, ok := countIn(payloads[0], no)
	if !ok {
		return api.Journal{}, false
	}
	var all partitions
	// Only the entries that the file was made with have to be there: of those that were
	// appended later, a crash may have left the first ones.
	if all.replay(payloads[1:]) < count {
		return api.Journal{}, false
	}
	return all.journal(), true
}

// countIn returns the number of entries that the first payload of a file with the number no
// tells, and whether it is such a payload.
func countIn(payload []byte, no int) (int, bool) {
	// PutLen puts nothing for a negative number, with which all payloads begin.
	rest, ok := bytes.CutPrefix(payload, num.PutLen(nil, no))
	if !ok || no < 0 {
		return 0, false
	}
	count, digits, e := num.GetLen(rest)
	if e != api.OK || digits != len(rest) || count > api.MaxBlock {
		return 0, false
	}
	return count, true
}

// replay applies the entries of payloads, up to the first one that is none or that cannot be
// applied, and returns how many there are before it.
func (all *partitions) replay(payloads [][]byte) int {
	effectOf := effects()
	for i, payload := range payloads {
		x, e := Get(payload)
		if e != api.OK || effectOf[x.Kind](&all[x.Part], x) != api.OK {
			return i
		}
	}
	return len(payloads)
}

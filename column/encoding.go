package column

import (
	"bytes"

	"winnower/api"
	"winnower/num"
	"winnower/value"
)

const byteBits = 8

// Put returns the encoding of c.
func Put(c api.Column) ([]byte, api.Errno) {
	if !May(c) {
		return nil, api.ErrArg
	}
	b := num.PutLen(num.PutLen(nil, c.N), len(c.Dict))
	for _, v := range c.Dict {
		// value.Put copies what it appends to, so that a long b would be copied for each value.
		encoded, e := value.Put([]byte{byte(v.Kind)}, v)
		if e != api.OK {
			return nil, e
		}
		b = append(b, encoded...)
	}
	return append(b, c.Ids...), api.OK
}

// Get returns the column whose encoding b begins with, and the number of bytes of this encoding.
func Get(b []byte) (api.Column, int, api.Errno) {
	n, at, e := getCount(b, api.MaxBlock)
	if e != api.OK {
		return api.Column{}, 0, e
	}
	values, size, e := getDict(b[at:])
	if e != api.OK {
		return api.Column{}, 0, e
	}
	at += size
	end := at + bytesFor(n, width(len(values)))
	if len(b) < end {
		return api.Column{}, 0, api.ErrShort
	}
	c := api.Column{N: n, Dict: values, Ids: bytes.Clone(b[at:end])}
	if !May(c) {
		return api.Column{}, 0, api.ErrForm
	}
	return c, end, api.OK
}

// getCount returns the count of at most most things that b begins with, and the number of its bytes.
func getCount(b []byte, most int) (int, int, api.Errno) {
	n, digits, e := num.GetLen(b)
	if e != api.OK {
		return 0, 0, e
	}
	if n > most {
		return 0, 0, api.ErrLong
	}
	return n, digits, api.OK
}

// getDict returns the values that b begins with, behind their count, and the number of all
// these bytes.
func getDict(b []byte) ([]api.Value, int, api.Errno) {
	count, at, e := getCount(b, api.MaxDict)
	if e != api.OK {
		return nil, 0, e
	}
	values := make([]api.Value, count)
	for i := range values {
		v, size, e := value.Any(b[at:])
		if e != api.OK {
			return nil, 0, e
		}
		values[i] = v
		at += size
	}
	return values, at, api.OK
}

// bytesFor returns how many bytes n packed numbers of width bits take.
func bytesFor(n, width int) int {
	return (n*width + byteBits - 1) / byteBits
}

package schema

import (
	"errors"
	"strconv"

	"winnower/api"
	"winnower/value"
)

// The bytes that tell whether a nullable column has a value.
const (
	markNull  = 0
	markValue = 1
)

// Why bytes are no encoding of a row, beside what value.Get refuses.
var (
	errNoMark  = errors.New("the bytes end before a nullable column")
	errBadMark = errors.New("a nullable column begins with neither 0 nor 1")
	errMore    = errors.New("there are bytes behind the last column")
)

// refusal is the error number of value.Get as an error.
type refusal api.Errno

func (r refusal) Error() string {
	return "value.Get returns error " + strconv.Itoa(int(r))
}

// columnError is the error at which reading a row ends: it wraps the one of the column.
type columnError struct {
	column int
	cause  error
}

func (c columnError) Error() string {
	return "column " + strconv.Itoa(c.column) + ": " + c.cause.Error()
}

func (c columnError) Unwrap() error { return c.cause }

// Encode returns the encoding of row.
func Encode(s api.Schema, row []api.Value) ([]byte, api.Errno) {
	if !Fits(s, row) {
		return nil, api.ErrArg
	}
	var b []byte
	for i, c := range s.Cols {
		b = put(b, c, row[i])
	}
	return b, api.OK
}

// Decode returns the row whose encoding is b.
func Decode(s api.Schema, b []byte) ([]api.Value, api.Errno) {
	if !May(s) {
		return nil, api.ErrArg
	}
	row, err := get(s.Cols, b)
	if err != nil {
		return nil, errno(err)
	}
	return row, api.OK
}

// put returns b followed by what encodes v, which fits c.
func put(b []byte, c api.Col, v api.Value) []byte {
	if isNull(c, v) {
		return append(b, markNull)
	}
	if c.Null {
		b = append(b, markValue)
	}
	// There is no error to pass on, as a value that fits is valid.
	b, _ = value.Put(b, v)
	return b
}

func get(cols []api.Col, b []byte) ([]api.Value, error) {
	var row []api.Value
	for i, c := range cols {
		v, size, err := getColumn(b, c)
		if err != nil {
			return nil, columnError{column: i, cause: err}
		}
		row, b = append(row, v), b[size:]
	}
	if len(b) > 0 {
		return nil, errMore
	}
	return row, nil
}

// getColumn returns the value of c that b begins with, and the number of its bytes.
func getColumn(b []byte, c api.Col) (api.Value, int, error) {
	if !c.Null {
		return getValue(b, c.Kind)
	}
	if len(b) == 0 {
		return api.Value{}, 0, errNoMark
	}
	switch b[0] {
	case markNull:
		return api.Value{Kind: api.Null}, 1, nil
	case markValue:
		v, size, err := getValue(b[1:], c.Kind)
		return v, 1 + size, err
	}
	return api.Value{}, 0, errBadMark
}

func getValue(b []byte, kind int) (api.Value, int, error) {
	v, size, e := value.Get(b, kind)
	if e != api.OK {
		return api.Value{}, 0, refusal(e)
	}
	return v, size, nil
}

// errno returns the number of an error of get, whether it is wrapped or not.
func errno(err error) api.Errno {
	var refused refusal
	switch {
	case errors.As(err, &refused):
		return api.Errno(refused)
	case errors.Is(err, errNoMark):
		return api.ErrShort
	}
	return api.ErrForm
}

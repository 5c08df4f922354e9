package journal

import (
	"winnower/api"
	"winnower/num"
)

const maxSum = 1<<32 - 1 // of 32 bits

// May reports whether x is valid.
func May(x api.Entry) bool {
	return within(x.Part, 0, api.MaxParts-1) && within(x.ID, 1, api.MaxID) && mayRest(x)
}

// mayRest reports whether the kind of x is one, and allows the fields of x behind the ID.
func mayRest(x api.Entry) bool {
	rest := api.Entry{Start: x.Start, End: x.End, Size: x.Size, Sum: x.Sum}
	switch x.Kind {
	case api.Commit:
		return within(x.Start, 0, x.End) && x.End <= api.MaxOffset && within(x.Size, 0, api.MaxCap) && within(x.Sum, 0, maxSum)
	case api.Drop:
		return rest == api.Entry{}
	case api.Base:
		return within(x.End, 0, api.MaxOffset) && rest == api.Entry{End: x.End}
	}
	return false
}

func within(n, least, greatest int) bool {
	return least <= n && n <= greatest
}

// Put returns the bytes of x.
func Put(x api.Entry) ([]byte, api.Errno) {
	if !May(x) {
		return nil, api.ErrArg
	}
	var b []byte
	for _, field := range fields(&x) {
		b = num.PutLen(b, *field)
	}
	return b, api.OK
}

// Get returns the entry whose bytes b are. As num reads no number that it would write in
// another way, no other bytes are those of this entry.
func Get(b []byte) (api.Entry, api.Errno) {
	var x api.Entry
	// Which fields follow hangs on the kind, so that it is read ahead of all of them. Bytes
	// that begin with none are refused by the loop, which reads it again.
	x.Kind, _, _ = num.GetLen(b)
	for _, field := range fields(&x) {
		n, digits, e := num.GetLen(b)
		if e != api.OK {
			return api.Entry{}, api.ErrForm
		}
		*field, b = n, b[digits:]
	}
	if len(b) > 0 || !May(x) {
		return api.Entry{}, api.ErrForm
	}
	return x, api.OK
}

// fields returns the fields of x that its bytes consist of, in order.
func fields(x *api.Entry) []*int {
	first := []*int{&x.Kind, &x.Part, &x.ID}
	switch x.Kind {
	case api.Commit:
		return append(first, &x.Start, &x.End, &x.Size, &x.Sum)
	case api.Base:
		return append(first, &x.End)
	}
	return first
}

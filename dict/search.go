package dict

import (
	"winnower/api"
	"winnower/value"
)

// Rises reports whether all elements of l are valid and strictly increasing.
func Rises(l []api.Value) bool {
	for i, v := range l {
		if !value.May(v) || i > 0 && value.Order(l[i-1], v) >= 0 {
			return false
		}
	}
	return true
}

// Search returns the first index of l whose element is not before v, and whether this
// element is v.
func Search(l []api.Value, v api.Value) (int, bool) {
	if !Rises(l) || !value.May(v) {
		return 0, false
	}
	return place(l, v, value.Order)
}

// place returns the first index of l, which rises by order, whose element is not before
// sought, and whether this element is sought. The index is the length of l if all elements
// are before sought.
func place[T any](l []T, sought T, order func(a, b T) int) (int, bool) {
	low, high := 0, len(l)
	for low < high {
		middle := low + (high-low)/2
		if order(l[middle], sought) < 0 {
			low = middle + 1
		} else {
			high = middle
		}
	}
	return low, low < len(l) && order(l[low], sought) == 0
}

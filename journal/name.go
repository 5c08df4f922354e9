package journal

import (
	"strconv"
	"strings"
)

const (
	mark      = "j" // with which a name begins
	maxNumber = 1 << 30
)

// Name returns the name of the file with the number no.
func Name(no int) string {
	return mark + strconv.Itoa(no)
}

// Parse returns the number of the file that has this name, and whether there is one.
func Parse(name string) (int, bool) {
	// What is not a number becomes some number here, which then has another name.
	no, _ := strconv.Atoi(strings.TrimPrefix(name, mark))
	if !mayNumber(no) || Name(no) != name {
		return 0, false
	}
	return no, true
}

// mayNumber reports whether a file may have the number no.
func mayNumber(no int) bool {
	return within(no, 1, maxNumber)
}

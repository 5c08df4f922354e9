package file

import (
	"strconv"
	"strings"

	"winnower/api"
)

// What a name consists of beside the part and the id.
const (
	mark    = "s"
	between = "-"
)

// Name returns the name of the file of segment id of a part.
func Name(part, id int) string {
	return mark + strconv.Itoa(part) + between + strconv.Itoa(id)
}

// Parse returns the part and the id of the segment whose file has this name, and whether there is one.
func Parse(name string) (int, int, bool) {
	first, second, _ := strings.Cut(strings.TrimPrefix(name, mark), between)
	// What is not a number becomes some number here, which then has another name.
	part, _ := strconv.Atoi(first)
	id, _ := strconv.Atoi(second)
	if !mayBe(part, id) || Name(part, id) != name {
		return 0, 0, false
	}
	return part, id, true
}

// mayBe reports whether a segment may have this part and this id.
func mayBe(part, id int) bool {
	return 0 <= part && part < api.MaxParts && 1 <= id && id <= api.MaxID
}

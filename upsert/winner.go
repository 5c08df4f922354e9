package upsert

import (
	"cmp"

	"winnower/api"
)

// winner returns what is known of row, which has a key, if it wins.
func (t *Table) winner(row []api.Value, at api.Place, offset int) api.Winner {
	w := api.Winner{At: at, Cmp: row[t.schema.Cmp].I, Offset: offset}
	if t.schema.Del != none {
		w.Gone = row[t.schema.Del].B
	}
	return w
}

// compete makes w the winner of key if it wins over the present one. Neither of the two wins
// if they are equal, which is an error.
func (t *Table) compete(key api.Value, w api.Winner) api.Errno {
	present, there := t.Find(key)
	if !there {
		t.crown(key, w)
		return api.OK
	}
	switch compare(w, present) {
	case 0:
		return api.ErrState
	case 1:
		t.crown(key, w)
	}
	return api.OK
}

// compare returns 1 if a wins over b, -1 if b wins over a, and 0 if neither does.
func compare(a, b api.Winner) int {
	return cmp.Or(cmp.Compare(a.Cmp, b.Cmp), cmp.Compare(a.Offset, b.Offset))
}

// crown makes w the winner of key, in place of the present one if there is one.
func (t *Table) crown(key api.Value, w api.Winner) {
	if seg, there := t.segments[key]; there {
		delete(t.winners[seg], key)
	}
	seg := w.At.Seg
	if t.winners[seg] == nil {
		t.winners[seg] = map[api.Value]api.Winner{}
	}
	t.winners[seg][key] = w
	t.segments[key] = seg
}

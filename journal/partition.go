package journal

import (
	"slices"

	"winnower/api"
)

// partition is what a journal tells of a partition. Entries have effects on it.
type partition struct {
	api.PartLog
}

// partitions are those of a journal while entries are applied. They change no live entry of
// a journal in place, and share none with one that is handed out.
type partitions [api.MaxParts]partition

func partitionsOf(j api.Journal) partitions {
	var all partitions
	for i, p := range j {
		// Without room behind the list, an entry is never appended to the caller's array.
		p.Live = slices.Clip(p.Live)
		all[i] = partition{p}
	}
	return all
}

func (all *partitions) journal() api.Journal {
	var j api.Journal
	for i, p := range all {
		j[i] = p.PartLog
		j[i].Live = append([]api.Entry(nil), p.Live...)
	}
	return j
}

// effects returns what the entries of each kind do to their partition, or the error because
// of which they do nothing.
func effects() map[int]func(*partition, api.Entry) api.Errno {
	return map[int]func(*partition, api.Entry) api.Errno{
		api.Commit: (*partition).commit,
		api.Drop:   (*partition).drop,
		api.Base:   (*partition).begin,
	}
}

func (p *partition) commit(x api.Entry) api.Errno {
	newest := p.newest()
	if x.ID != newest.ID+1 || x.Start != newest.End {
		return api.ErrState
	}
	p.Live = append(p.Live, x)
	return api.OK
}

func (p *partition) drop(x api.Entry) api.Errno {
	if len(p.Live) == 0 || p.Live[0].ID != x.ID {
		return api.ErrState
	}
	p.Gone, p.Base = p.Live[0].ID, p.Live[0].End
	p.Live = p.Live[1:]
	return api.OK
}

func (p *partition) begin(x api.Entry) api.Errno {
	if len(p.Live) > 0 || p.Gone != 0 || p.Base != 0 {
		return api.ErrState
	}
	p.Gone, p.Base = x.ID, x.End
	return api.OK
}

// newest returns the last live segment. Without one, what is gone stands for it, as the
// next segment follows it in the same way.
func (p *partition) newest() api.Entry {
	if len(p.Live) == 0 {
		return api.Entry{ID: p.Gone, End: p.Base}
	}
	return p.Live[len(p.Live)-1]
}

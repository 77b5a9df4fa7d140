package ledger

import (
	"cmp"
	"iter"
	"slices"

	"tapster/api"
)

// page is where dues are written down.
type page struct {
	// The ID that was told last. It never falls, so that none is told twice, whatever was removed.
	last int
	// By IDs. The Limits that are written down never change, and are copied on each way out, so that pages may share them.
	dues map[int]api.Due
}

// write writes down limits till a time, and tells their ID.
func (p *page) write(till int, limits []api.Limit) int {
	p.last++
	p.dues[p.last] = copied(api.Due{ID: p.last, Till: till, Limits: limits})
	return p.last
}

// until goes over the dues whose Till is end or less, by rising Till, of several by rising ID.
func (p *page) until(end int) iter.Seq[api.Due] {
	return p.sorted(end, func(a, b api.Due) int {
		return cmp.Or(cmp.Compare(a.Till, b.Till), cmp.Compare(a.ID, b.ID))
	})
}

// all goes over all dues, by rising ID.
func (p *page) all() iter.Seq[api.Due] {
	return p.sorted(api.MaxTime, func(a, b api.Due) int { return cmp.Compare(a.ID, b.ID) })
}

// sorted goes over copies of the dues whose Till is end or less, in an order in which no two are the same. What it has come to may be deleted.
func (p *page) sorted(end int, compare func(a, b api.Due) int) iter.Seq[api.Due] {
	return func(yield func(x api.Due) bool) {
		var l []api.Due
		for _, x := range p.dues {
			// What comes later is left out ahead of sorting: mostly nothing is due yet.
			if x.Till <= end {
				l = append(l, x)
			}
		}
		slices.SortFunc(l, compare)
		for _, x := range l {
			if !yield(copied(x)) {
				return
			}
		}
	}
}

// copied is x with Limits in new memory; nil, if there are none, since room behind them would be the caller's.
func copied(x api.Due) api.Due {
	l := x.Limits
	x.Limits = nil
	if len(l) > 0 {
		x.Limits = make([]api.Limit, len(l))
		copy(x.Limits, l)
	}
	return x
}

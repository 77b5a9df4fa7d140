package cells

import (
	"iter"

	"tapster/api"
	"tapster/limiter"
	"tapster/table"
)

// row is where CELLS stand, each at a number of its own.
type row struct {
	room int
	// The number of each key, in the order in which they were Set.
	numbers *table.Table
	// A map, since a list would have gaps: no other CELL could move up into one, as its key's new number would make that the NEWEST.
	cells map[int]api.Cell
	// The number that was given last. None is given twice, so that none is sought.
	last int
}

func newRow(room int) *row {
	return &row{room: room, numbers: table.New(room), cells: map[int]api.Cell{}}
}

// find tells the CELL of key, true; nothing, false, if there is none.
func (r *row) find(key string) (api.Cell, bool) {
	number, there := r.numbers.Peek(key)
	return r.cells[number], there
}

// all goes over the CELLS, from the OLDEST on. What it has come to may be dropped.
func (r *row) all() iter.Seq[api.Cell] {
	return func(yield func(x api.Cell) bool) {
		for _, key := range r.numbers.Keys() {
			x, _ := r.find(key)
			if !yield(x) {
				return
			}
		}
	}
}

// keep puts x, which is not Fresh, into the row; ErrFull, if there is no room for it, and none that may go.
func (r *row) keep(x api.Cell, now int) api.Errno {
	_, there := r.numbers.Peek(x.Key)
	switch {
	case !there && r.numbers.Len() >= r.room:
		key, found := r.leaving(freshAt(now))
		if !found {
			return api.ErrFull
		}
		r.drop(key)
		fallthrough
	default:
		r.put(x)
		return api.OK
	}
}

// leaving tells the key of the CELL that may go: of the OLDEST that is fresh, or, if there is none, of the OLDEST that may be forgotten all the same; nothing, false, if there is none of these either.
func (r *row) leaving(fresh func(x api.Cell) bool) (string, bool) {
	key, found := "", false
search:
	for x := range r.all() {
		switch {
		case fresh(x):
			key, found = x.Key, true
			break search
		case !found && x.Policy.Open && x.State.Held == 0:
			// One that is fresh may stand behind it yet.
			key, found = x.Key, true
		}
	}
	return key, found
}

// put makes x the CELL of its key, and the NEWEST. There is room for it.
func (r *row) put(x api.Cell) {
	number, there := r.numbers.Peek(x.Key)
	if !there {
		r.last++
		number = r.last
	}
	r.numbers.Put(x.Key, number)
	r.cells[number] = copied(x)
}

// drop forgets the CELL of key, if there is one.
func (r *row) drop(key string) {
	if number, there := r.numbers.Peek(key); there {
		r.numbers.Delete(key)
		delete(r.cells, number)
	}
}

// freshAt tells a function that tells whether a CELL is Fresh at now.
func freshAt(now int) func(x api.Cell) bool {
	return func(x api.Cell) bool {
		return limiter.Fresh(x.Policy, x.State, now)
	}
}

// copied is x with a Log in new memory; nil, if there is nothing in it, since room behind it would be the caller's.
func copied(x api.Cell) api.Cell {
	l := x.State.Log
	x.State.Log = nil
	if len(l) > 0 {
		x.State.Log = make([]api.Entry, len(l))
		copy(x.State.Log, l)
	}
	return x
}

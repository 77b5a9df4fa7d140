package table

import (
	"iter"

	"tapster/hash"
)

// nobody is the number of no key's entry.
const nobody = 0

// few is how many places there are at first: a power of two, as it always is.
const few = 8

// entry is what is known of a key: its value, and the numbers of the entries beside it in the order.
type entry[V any] struct {
	key   string
	sum   uint64
	value V
	older int
	newer int
}

// ordered maps keys to values, for up to room keys, in the order in which they were made the NEWEST.
type ordered[V any] struct {
	room int
	// The entry of nobody has neither key nor value. It ties the NEWEST to the OLDEST, so that each entry has one on both sides.
	entries []entry[V]
	// Here stand the entries' numbers, each at the place of its sum or behind it, with nobody nowhere between. At least half of the places are nobody's, so that each search ends, and soon.
	places []int
}

func newOrdered[V any](room int) *ordered[V] {
	return &ordered[V]{room: room, entries: make([]entry[V], 1), places: make([]int, few)}
}

func (o *ordered[V]) count() int {
	return len(o.entries) - 1
}

func (o *ordered[V]) put(key string, value V) bool {
	number := o.number(key)
	if number == nobody {
		return o.add(key, value)
	}
	o.entries[number].value = value
	o.renew(number)
	return true
}

func (o *ordered[V]) get(key string) (V, bool) {
	number := o.number(key)
	if number != nobody {
		o.renew(number)
	}
	return o.value(number)
}

func (o *ordered[V]) peek(key string) (V, bool) {
	return o.value(o.number(key))
}

func (o *ordered[V]) remove(key string) bool {
	place := o.seek(key, hash.Sum(key))
	number := o.places[place]
	if number == nobody {
		return false
	}
	o.leave(number)
	o.vacate(place)
	o.fill(number)
	return true
}

func (o *ordered[V]) next(key string) (string, bool) {
	number := o.number(key)
	if number == nobody {
		return "", false
	}
	newer := o.entries[number].newer
	return o.entries[newer].key, newer != nobody
}

// all goes over the keys and their values, from the OLDEST on.
func (o *ordered[V]) all() iter.Seq2[string, V] {
	return func(yield func(key string, value V) bool) {
		for number := o.entries[nobody].newer; number != nobody; number = o.entries[number].newer {
			if !yield(o.entries[number].key, o.entries[number].value) {
				return
			}
		}
	}
}

// value tells that of the entry of a number, true; nothing, false, of nobody.
func (o *ordered[V]) value(number int) (V, bool) {
	return o.entries[number].value, number != nobody
}

// number is that of key's entry; nobody's, if there is none.
func (o *ordered[V]) number(key string) int {
	return o.places[o.seek(key, hash.Sum(key))]
}

// seek is the place where the number of key's entry stands; that where it would stand, if there is none.
func (o *ordered[V]) seek(key string, sum uint64) int {
	place := o.home(sum)
search:
	for {
		switch number := o.places[place]; {
		case number == nobody:
			break search
		case o.entries[number].sum == sum && o.entries[number].key == key:
			break search
		}
		place = o.behind(place)
	}
	return place
}

// home is the place at which a search for a sum begins. The keys of one shard share what their sums leave by the number of shards, often the lowest bits: these alone would crowd them.
func (o *ordered[V]) home(sum uint64) int {
	return int((sum ^ sum>>32) & uint64(len(o.places)-1))
}

// behind is the place at which a search goes on.
func (o *ordered[V]) behind(place int) int {
	return (place + 1) & (len(o.places) - 1)
}

// way is how many places a search goes on by, from one to another.
func (o *ordered[V]) way(from int, to int) int {
	return (to - from) & (len(o.places) - 1)
}

// add lays a new entry behind the NEWEST; false, if there is no room for it.
func (o *ordered[V]) add(key string, value V) bool {
	if o.count() >= o.room {
		return false
	}
	number := len(o.entries)
	o.entries = append(o.entries, entry[V]{key: key, sum: hash.Sum(key), value: value})
	if 2*len(o.entries) > len(o.places) {
		o.places = make([]int, 2*len(o.places))
		o.seat(1)
	} else {
		o.seat(number)
	}
	o.join(number)
	return true
}

// seat gives a place to each entry from that number on.
func (o *ordered[V]) seat(first int) {
	for number := first; number < len(o.entries); number++ {
		e := o.entries[number]
		o.places[o.seek(e.key, e.sum)] = number
	}
}

// vacate makes a place nobody's. Whom a search would then miss, as it would end there, moves up.
func (o *ordered[V]) vacate(place int) {
	for from := o.behind(place); o.places[from] != nobody; from = o.behind(from) {
		home := o.home(o.entries[o.places[from]].sum)
		if o.way(home, from) >= o.way(place, from) {
			o.places[place] = o.places[from]
			place = from
		}
	}
	o.places[place] = nobody
}

// fill makes the last entry have the number of one that is gone, so that there are no more entries than keys.
func (o *ordered[V]) fill(number int) {
	last := len(o.entries) - 1
	if number != last {
		e := o.entries[last]
		o.places[o.seek(e.key, e.sum)] = number
		o.entries[number] = e
		o.tie(e.older, number)
		o.tie(number, e.newer)
	}
	// The room of it stays: its key must not.
	clear(o.entries[last:])
	o.entries = o.entries[:last]
}

// renew makes an entry that of the NEWEST.
func (o *ordered[V]) renew(number int) {
	o.leave(number)
	o.join(number)
}

// leave takes an entry out of the order.
func (o *ordered[V]) leave(number int) {
	o.tie(o.entries[number].older, o.entries[number].newer)
}

// join lays an entry behind the NEWEST.
func (o *ordered[V]) join(number int) {
	o.tie(o.entries[nobody].older, number)
	o.tie(number, nobody)
}

// tie lays two entries one behind the other.
func (o *ordered[V]) tie(older int, newer int) {
	o.entries[older].newer = newer
	o.entries[newer].older = older
}

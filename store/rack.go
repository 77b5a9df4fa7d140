package store

import (
	"tapster/api"
	"tapster/cells"
	"tapster/hash"
	"tapster/ledger"
	"tapster/limiter"
)

// rack is where shards stand, each with the CELLS of its keys, and what is held of them all.
type rack struct {
	shards []*cells.Cells
	ledger *ledger.Ledger
}

func newRack(shards int, room int) *rack {
	r := &rack{make([]*cells.Cells, min(max(shards, 1), api.MaxShards)), ledger.New()}
	for i := range r.shards {
		r.shards[i] = cells.New(room)
	}
	return r
}

// copied is a rack that is the same, in new memory.
func (r *rack) copied() *rack {
	other := &rack{make([]*cells.Cells, len(r.shards)), r.ledger.Copy()}
	for i, c := range r.shards {
		other.shards[i] = c.Copy()
	}
	return other
}

// shard is that of key.
func (r *rack) shard(key string) int {
	return hash.Shard(key, len(r.shards))
}

// look tells what the CELLS of key do.
func (r *rack) look(key string, p api.Policy, now int) api.State {
	return r.shards[r.shard(key)].Look(key, p, now)
}

// acting tells a function that tells the CELL that an act of that kind at now makes of a limit; false, if the act is refused. It changes nothing.
func (r *rack) acting(kind int, now int) func(x api.Limit) (api.Cell, bool) {
	return func(x api.Limit) (api.Cell, bool) {
		s, done := limiter.Do(x.Policy, r.look(x.Key, x.Policy, now), api.Act{Kind: kind, Now: now, Cost: x.Cost})
		return api.Cell{Key: x.Key, Policy: x.Policy, State: s}, done
	}
}

// judge tells what comes of an act of that kind at now, done to all of l, and, if it is Granted, the CELLS that it makes of them. It changes nothing.
func (r *rack) judge(kind int, now int, l []api.Limit) (api.Verdict, []api.Cell) {
	if !proper(l) {
		return noRoom(), nil
	}
	act := r.acting(kind, now)
	made := make([]api.Cell, len(l))
	for i, x := range l {
		y, done := act(x)
		if !done {
			return api.Verdict{Kind: api.Denied, Retry: r.retry(now, l)}, nil
		}
		made[i] = y
	}
	return api.Verdict{Kind: api.Granted}, made
}

// retry is how long it lasts from now on till there is room for each of l; Never, if there never is for one.
func (r *rack) retry(now int, l []api.Limit) int {
	longest := 0
waiting:
	for _, x := range l {
		wait, ever := limiter.Retry(x.Policy, r.look(x.Key, x.Policy, now), now, x.Cost)
		switch {
		case !ever:
			longest = api.Never
			break waiting
		case wait > longest:
			longest = wait
		}
	}
	return longest
}

// charge does an act of that kind at now to all of l, or to none of it, and tells which.
func (r *rack) charge(kind int, now int, l []api.Limit) api.Verdict {
	told, made := r.judge(kind, now, l)
	if told.Kind != api.Granted {
		return told
	}
	switch kind {
	case api.Hold:
		// Asked first: what was Set could not be taken back.
		if r.ledger.Len() >= api.MaxHolds {
			return noRoom()
		}
		fallthrough
	default:
		if !r.keep(made, now) {
			return noRoom()
		}
	}
	return told
}

// keep Sets all of l at now, in order; false, if there is no room for one of them, and then nothing is changed.
func (r *rack) keep(l []api.Cell, now int) bool {
	copies := map[int]*cells.Cells{}
	for i, x := range l {
		shard := r.shard(x.Key)
		c, begun := copies[shard]
		switch {
		case begun:
		case i == len(l)-1:
			// A Set that is refused changes nothing itself, and behind the last one none is refused: that one needs no copy.
			c = r.shards[shard]
		default:
			c = r.shards[shard].Copy()
			copies[shard] = c
		}
		if c.Set(x, now) != api.OK {
			return false
		}
	}
	for shard, c := range copies {
		r.shards[shard] = c
	}
	return true
}

// expire releases all that is due at now, each at its own time, and tells how many dues these were.
func (r *rack) expire(now int) int {
	due := r.ledger.Due(now)
	for _, x := range due {
		r.divide(x.Till, 0, x.Limits)
	}
	return len(due)
}

// divide commits most of each Cost of l at now (all, if most is below 0), and releases what is left.
func (r *rack) divide(now int, most int, l []api.Limit) {
	for _, x := range l {
		part, rest := x, x
		if most >= 0 {
			part.Cost = min(most, x.Cost)
		}
		rest.Cost -= part.Cost
		r.settle(api.Commit, now, part)
		r.settle(api.Release, now, rest)
	}
}

// settle does an act of that kind at now to what is held of x; nothing, if it is refused, as one of no cost is.
func (r *rack) settle(kind int, now int, x api.Limit) {
	if y, done := r.acting(kind, now)(x); done {
		// A key of which some is held has a CELL already, so that there is room for it.
		r.shards[r.shard(x.Key)].Set(y, now)
	}
}

// proper tells whether l may be asked for: no key twice, and of each a policy that may be, and a Cost of 1 at least.
func proper(l []api.Limit) bool {
	keys := map[string]struct{}{}
	for _, x := range l {
		if _, twice := keys[x.Key]; twice || limiter.Check(x.Policy) != api.OK || x.Cost < 1 {
			return false
		}
		keys[x.Key] = struct{}{}
	}
	return true
}

// noRoom is what is told where nothing is known of the costs that are asked for.
func noRoom() api.Verdict {
	return api.Verdict{Kind: api.NoRoom}
}

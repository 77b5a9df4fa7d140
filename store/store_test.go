package store

import (
	"hash/fnv"
	"slices"
	"strconv"
	"strings"
	"testing"

	"tapster/api"
	"tapster/limiter"
)

const (
	most  = 1<<63 - 1
	least = -1 << 63
	late  = 1 << 53
)

// clipped is what the document makes of a time.
func clipped(t int) int {
	return min(max(t, 0), late)
}

// edges are times at which a clip goes wrong, or just doesn't, rising.
func edges() []int {
	return []int{least, least + 1, -1 << 53, -5, -1, 0, 1, 2, 1 << 32, late - 1, late, late + 1, 1 << 62, most - 1, most}
}

// small are policies of the four Kinds, in their order, by which 10 are granted in 100.
func small() []api.Policy {
	return []api.Policy{
		{Kind: api.Bucket, Limit: 10, Period: 100, Burst: 10},
		{Kind: api.Gcra, Limit: 10, Period: 100, Burst: 10},
		{Kind: api.Log, Limit: 10, Period: 100, Cap: 20},
		{Kind: api.Count, Limit: 10, Period: 100},
	}
}

// long are the same, but that what is taken is remembered for a thousand million times as long.
func long() []api.Policy {
	l := small()
	for i := range l {
		l[i].Period *= 1000000000
	}
	return l
}

func open(p api.Policy) api.Policy {
	p.Open = true
	return p
}

func limit(key string, p api.Policy, cost int) api.Limit {
	return api.Limit{Key: key, Policy: p, Cost: cost}
}

// numbered are limits of k0, k1, .., by the policies of l in turn.
func numbered(count int, cost int, l ...api.Policy) []api.Limit {
	all := make([]api.Limit, count)
	for i := range all {
		all[i] = limit("k"+strconv.Itoa(i), l[i%len(l)], cost)
	}
	return all
}

// wrongLists are such as may not be asked for, of keys from "a" on, by p.
func wrongLists(p api.Policy) [][]api.Limit {
	right := limit("a", p, 1)
	broken := func(change func(p *api.Policy)) api.Policy {
		q := p
		change(&q)
		return q
	}
	wrong := [][]api.Limit{
		{right, right},
		{right, limit("a", p, 2)},
		{right, limit("a", open(p), 1)},
		{right, limit("b", p, 1), right},
		{limit("b", p, 1), right, limit("c", p, 1), limit("d", p, 1), limit("a", open(p), 3)},
		{limit("", p, 1), limit("", p, 1)},
	}
	for _, q := range append(small(), long()...) {
		if q != p {
			wrong = append(wrong, []api.Limit{right, limit("a", q, 1)})
		}
	}
	lone := []api.Limit{
		limit("a", api.Policy{}, 1),
		limit("a", api.Policy{Kind: 5, Limit: 1, Period: 1}, 1),
		limit("a", broken(func(q *api.Policy) { q.Kind = 0 }), 1),
		limit("a", broken(func(q *api.Policy) { q.Kind = -q.Kind }), 1),
		limit("a", broken(func(q *api.Policy) { q.Limit = 0 }), 1),
		limit("a", broken(func(q *api.Policy) { q.Limit = api.MaxLimit + 1 }), 1),
		limit("a", broken(func(q *api.Policy) { q.Period = most }), 1),
		limit("a", broken(func(q *api.Policy) { q.Burst = least }), 1),
		limit("a", broken(func(q *api.Policy) { q.Cap = -1 }), 1),
		limit("a", p, 0), limit("a", p, -1), limit("a", p, least),
	}
	for _, x := range lone {
		wrong = append(wrong, []api.Limit{x}, []api.Limit{limit("b", p, 1), x}, []api.Limit{x, limit("b", p, 1)})
	}
	return wrong
}

// told is one Verdict.
func told(kind, retry, id int) api.Verdict {
	return api.Verdict{Kind: kind, Retry: retry, ID: id}
}

func granted() api.Verdict { return told(api.Granted, 0, 0) }

func refused() api.Verdict { return told(api.NoRoom, 0, 0) }

func check(t testing.TB, when string, got, want api.Verdict) {
	t.Helper()
	if got != want {
		t.Fatalf("%s: %v, not %v", when, got, want)
	}
}

func checkErrno(t testing.TB, when string, got, want api.Errno) {
	t.Helper()
	if got != want {
		t.Fatalf("%s: %d, not %d", when, got, want)
	}
}

func sameState(a, b api.State) bool {
	return a.At == b.At && a.Level == b.Level && a.Held == b.Held && slices.Equal(a.Log, b.Log)
}

func sameCell(a, b api.Cell) bool {
	return a.Key == b.Key && a.Policy == b.Policy && sameState(a.State, b.State)
}

func sameDue(a, b api.Due) bool {
	return a.ID == b.ID && a.Till == b.Till && slices.Equal(a.Limits, b.Limits)
}

func checkLook(t testing.TB, when string, s *Store, x api.Limit, now int, want api.State) {
	t.Helper()
	if got := s.Look(x.Key, x.Policy, now); !sameState(got, want) {
		t.Fatalf("%s: Look(%q, %v, %d): %v, not %v", when, x.Key, x.Policy, now, got, want)
	}
}

// checkCells holds what stands in one shard, from the OLDEST on.
func checkCells(t testing.TB, when string, s *Store, shard int, want []api.Cell) {
	t.Helper()
	if got := s.shards[shard].All(); !slices.EqualFunc(got, want, sameCell) {
		t.Fatalf("%s: in shard %d: %v, not %v", when, shard, got, want)
	}
}

func checkHeld(t testing.TB, when string, s *Store, want ...api.Due) {
	t.Helper()
	if got := s.Held(); !slices.EqualFunc(got, want, sameDue) {
		t.Fatalf("%s: Held: %v, not %v", when, got, want)
	}
}

// checkNext holds the ID that is told next, if there is room for one.
func checkNext(t testing.TB, when string, s *Store, want int) {
	t.Helper()
	if got, errno := s.ledger.Copy().Add(0); errno == api.OK && got != want {
		t.Fatalf("%s: the next ID is %d, not %d", when, got, want)
	}
}

// checkSame holds that s is what another one is: each shard, in its order, and all that is held.
func checkSame(t testing.TB, when string, s *Store, other *Store) {
	t.Helper()
	if len(s.shards) != len(other.shards) || s.Len() != other.Len() {
		t.Fatalf("%s: %d shards, %d cells, not %d, %d", when, len(s.shards), s.Len(), len(other.shards), other.Len())
	}
	for i, c := range other.shards {
		checkCells(t, when, s, i, c.All())
	}
	checkHeld(t, when, s, other.Held()...)
	if next, errno := other.ledger.Copy().Add(0); errno == api.OK {
		checkNext(t, when, s, next)
	}
}

// shardOf tells the shard of a key as the document says it is told, by another hand's sums.
func shardOf(key string, shards int) int {
	sum := fnv.New64a()
	sum.Write([]byte(key))
	return int(sum.Sum64() % uint64(shards))
}

// apart are keys, one of each shard, in the order of these.
func apart(shards int) []string {
	keys := make([]string, shards)
	for i, found := 0, 0; found < shards; i++ {
		key := "s" + strconv.Itoa(i)
		if shard := shardOf(key, shards); keys[shard] == "" {
			keys[shard] = key
			found++
		}
	}
	return keys
}

// do is what an act makes of a state.
func do(t testing.TB, p api.Policy, s api.State, kind, now, cost int) api.State {
	t.Helper()
	then, done := limiter.Do(p, s, api.Act{Kind: kind, Now: now, Cost: cost})
	if !done {
		t.Fatalf("refused: %d of %v, %v at %d", kind, p, s, now)
	}
	return then
}

// TestExample holds the chapter's, by each Kind.
func TestExample(t *testing.T) {
	for _, p := range small() {
		p.Burst, p.Limit = p.Burst/2, 5
		for _, shards := range []int{1, 7} {
			s := New(shards, 9)
			a, b := limit("a", p, 3), limit("b", p, 6)
			check(t, "example 1", s.Take(0, a, b), told(api.Denied, api.Never, 0))
			if room := limiter.Room(p, s.Look("a", p, 0), 0); room != 5 || s.Len() != 0 {
				t.Fatal(room, s.Len())
			}
			check(t, "example 1", s.Take(0, limit("a", p, 5)), granted())
		}
	}
}

// TestWholeExample is the eighth of the whole: of two costs, one of which is too great, neither is charged.
func TestWholeExample(t *testing.T) {
	for _, p := range small() {
		for _, l := range [][]api.Limit{
			{limit("a", p, 11), limit("b", p, 1)},
			{limit("a", p, 1), limit("b", p, 11)},
			{limit("a", p, most), limit("b", p, 1)},
		} {
			s := New(3, 9)
			check(t, "too great", s.Take(5, l...), told(api.Denied, api.Never, 0))
			check(t, "too great", s.Reserve(5, 5, l...), told(api.Denied, api.Never, 0))
			checkSame(t, "too great", s, New(3, 9))
		}
	}
}

// TestNew: there is nothing, and there are as many shards as are asked for, clipped.
func TestNew(t *testing.T) {
	for _, x := range []struct{ shards, want int }{
		{least, 1}, {-64, 1}, {-1, 1}, {0, 1}, {1, 1}, {2, 2}, {3, 3}, {63, 63}, {64, 64}, {65, 64}, {128, 64}, {1 << 32, 64}, {most, 64},
	} {
		s := New(x.shards, 1)
		when := "shards " + strconv.Itoa(x.shards)
		if len(s.shards) != x.want || s.Len() != 0 {
			t.Fatal(when, len(s.shards), s.Len())
		}
		checkHeld(t, when, s)
		checkNext(t, when, s, 1)
		// There is room for one in each shard, and for no more in any.
		p := long()[0]
		keys := apart(x.want)
		var all []api.Limit
		for _, key := range keys {
			all = append(all, limit(key, p, 1))
		}
		check(t, when, s.Take(0, all...), granted())
		for i, key := range keys {
			checkCells(t, when, s, i, []api.Cell{{Key: key, Policy: p, State: do(t, p, limiter.New(p, 0), api.Take, 0, 1)}})
			check(t, when, s.Take(0, limit(key, p, 1)), granted())
		}
		for i := range 100 {
			check(t, when, s.Take(0, limit("more"+strconv.Itoa(i), p, 1)), refused())
		}
		if s.Len() != x.want {
			t.Fatal(when, s.Len())
		}
	}
}

// TestRoom is for each shard.
func TestRoom(t *testing.T) {
	for _, x := range []struct{ room, want int }{
		{least, 0}, {-1, 0}, {0, 0}, {1, 1}, {2, 2}, {9999, 9999}, {10000, 10000}, {10001, 10000}, {1 << 32, 10000}, {most, 10000},
	} {
		for _, shards := range []int{1, 3} {
			if x.want*shards > 10000 {
				continue
			}
			when := "room " + strconv.Itoa(x.room)
			s := New(shards, x.room)
			p := long()[3]
			var all []api.Limit
			count := make([]int, shards)
			for i := 0; len(all) < x.want*shards; i++ {
				key := "k" + strconv.Itoa(i)
				if shard := shardOf(key, shards); count[shard] < x.want {
					count[shard]++
					all = append(all, limit(key, p, 1))
				}
			}
			more := limit("more", p, 1)
			if len(all) > 0 {
				check(t, when, s.Copy().Take(0, append(all, more)...), refused())
			}
			check(t, when, s.Take(0, all...), granted())
			if s.Len() != len(all) {
				t.Fatal(when, s.Len())
			}
			check(t, when+", full", s.Take(0, more), refused())
			check(t, when+", full", s.Reserve(0, 5, more), refused())
			check(t, when+", full", s.Peek(0, more), granted())
			check(t, when+", full", s.Take(0, all...), granted())
			check(t, when+", full", s.Take(0), granted())
			if s.Len() != len(all) {
				t.Fatal(when, s.Len())
			}
			checkHeld(t, when, s)
		}
	}
}

// TestLen counts the cells of all shards.
func TestLen(t *testing.T) {
	p := long()[2]
	for _, shards := range []int{1, 2, 5, 64} {
		s := New(shards, 100)
		for i, x := range numbered(100, 1, p) {
			check(t, "len", s.Take(i, x), granted())
			if s.Len() != i+1 {
				t.Fatal(i, s.Len())
			}
			check(t, "len", s.Take(i, x), granted())
			if s.Len() != i+1 {
				t.Fatal(i, s.Len())
			}
		}
	}
}

// TestShards: rising, each once, whatever the Policies and Costs are; and nothing is done.
func TestShards(t *testing.T) {
	draw := scattered()
	for _, shards := range []int{1, 2, 3, 10, 63, 64} {
		s := New(shards, 5)
		check(t, "shards", s.Reserve(0, 5, limit("a", small()[0], 1)), told(api.Granted, 0, 1))
		before := s.Copy()
		for count := range 80 {
			var l []api.Limit
			want := make([]int, 0, shards)
			for range count {
				x := limit(strings.Repeat("é\x00:", draw(3))+strconv.Itoa(draw(1000)), small()[draw(4)], draw(3)-1)
				if draw(4) == 0 {
					x.Policy = api.Policy{}
				}
				l = append(l, x, x)
				want = append(want, shardOf(x.Key, shards))
			}
			slices.Sort(want)
			want = slices.Compact(want)
			// A map goes through its keys in another order each time.
			for range 3 {
				if got := s.Shards(l...); !slices.Equal(got, want) {
					t.Fatalf("of %d: %v, not %v", shards, got, want)
				}
			}
		}
		if got := s.Shards(); len(got) != 0 {
			t.Fatal("of none:", got)
		}
		checkSame(t, "shards", s, before)
	}
	if got := New(1<<40, 0).Shards(limit("", api.Policy{}, 0)); !slices.Equal(got, []int{37}) {
		t.Fatal("of no bytes:", got)
	}
}

// TestLook tells of a key that is there, that is not, and of another policy; and nothing changes.
func TestLook(t *testing.T) {
	for i, p := range small() {
		for _, shards := range []int{1, 2, 64} {
			s := New(shards, 9)
			check(t, "look", s.Take(5, limit("a", p, 3), limit("", p, 2)), granted())
			check(t, "look", s.Reserve(7, 1, limit("b", p, 4)), told(api.Granted, 0, 1))
			a := do(t, p, limiter.New(p, 5), api.Take, 5, 3)
			b := do(t, p, limiter.New(p, 7), api.Hold, 7, 4)
			none := do(t, p, limiter.New(p, 5), api.Take, 5, 2)
			before := s.Copy()
			for _, now := range append(edges(), 5, 8, 9, 50, 500) {
				checkLook(t, "there", s, limit("a", p, 0), now, a)
				checkLook(t, "there", s, limit("", p, 0), now, none)
				// It is due from 8 on, but nothing asks for that.
				checkLook(t, "there", s, limit("b", p, 0), now, b)
				for _, key := range []string{"c", "A", "a\x00", "a:"} {
					checkLook(t, "not there", s, limit(key, p, 0), now, limiter.New(p, now))
				}
				for _, q := range []api.Policy{open(p), small()[(i+1)%4], long()[i], {}} {
					checkLook(t, "another policy", s, limit("a", q, 0), now, limiter.New(q, now))
				}
			}
			checkSame(t, "looked", s, before)
		}
	}
}

// TestNoLimits: of none all is Granted, and for Reserve too, which tells an ID.
func TestNoLimits(t *testing.T) {
	for _, room := range []int{0, 3} {
		for _, none := range [][]api.Limit{nil, {}, make([]api.Limit, 0, 4)} {
			s := New(2, room)
			for i, now := range edges() {
				check(t, "none", s.Take(now, none...), granted())
				check(t, "none", s.Peek(now, none...), granted())
				check(t, "none", s.Copy().Reserve(now, 3, none...), told(api.Granted, 0, 1))
				c := s.Copy()
				check(t, "none", c.Reserve(now, 1+i, none...), told(api.Granted, 0, 1))
				checkHeld(t, "none", c, api.Due{ID: 1, Till: min(clipped(now)+1+i, late)})
				checkErrno(t, "none", c.Copy().Commit(least, 1, i-3), api.OK)
				if got := c.Expire(most); got != 1 {
					t.Fatal("due:", got)
				}
			}
			checkSame(t, "none", s, New(2, room))
		}
	}
}

// TestWrong is of what may not be asked for, whatever else is told of it: NoRoom, ahead of Denied, and nothing is changed but by Expire.
func TestWrong(t *testing.T) {
	for _, p := range small() {
		for _, l := range wrongLists(p) {
			for _, shards := range []int{1, 4} {
				s := New(shards, 9)
				check(t, "wrong", s.Take(3, limit("b", p, 10)), granted())
				check(t, "wrong", s.Reserve(3, 4, limit("d", p, 10)), told(api.Granted, 0, 1))
				for _, now := range []int{-1, 3, 6} {
					before := s.Copy()
					for _, l := range [][]api.Limit{l, append([]api.Limit{limit("d", p, 1)}, l...), append(l, limit("z", p, most))} {
						check(t, "wrong", s.Take(now, l...), refused())
						check(t, "wrong", s.Peek(now, l...), refused())
						check(t, "wrong", s.Reserve(now, 9, l...), refused())
						checkSame(t, "wrong", s, before)
					}
				}
				for _, ask := range asks() {
					c, want := s.Copy(), s.Copy()
					want.Expire(7)
					check(t, "wrong, behind Expire", ask(c, 7, l...), refused())
					checkSame(t, "wrong, behind Expire", c, want)
				}
			}
		}
	}
}

// asks are the calls that ask for limits.
func asks() []func(s *Store, now int, l ...api.Limit) api.Verdict {
	return []func(s *Store, now int, l ...api.Limit) api.Verdict{
		(*Store).Take,
		(*Store).Peek,
		func(s *Store, now int, l ...api.Limit) api.Verdict { return s.Reserve(now, 3, l...) },
	}
}

// TestDenied asks for several, of which some are refused: nothing is charged, in whatever place they stand, and the longest wait is told.
func TestDenied(t *testing.T) {
	for _, p := range small() {
		for _, shards := range []int{1, 3, 64} {
			s := New(shards, 9)
			// Room for 1 at 0; for 4, for 7 and for 10 each later than the one before.
			check(t, "filled", s.Take(0, limit("a", p, 9), limit("b", p, 9), limit("c", p, 9)), granted())
			waits := map[int]int{}
			for _, cost := range []int{1, 4, 7, 10} {
				wait, ever := limiter.Retry(p, s.Look("a", p, 0), 0, cost)
				if !ever {
					t.Fatal(p, cost)
				}
				waits[cost] = wait
			}
			before := s.Copy()
			for _, a := range []int{1, 4, 7, 10, 11} {
				for _, b := range []int{1, 4, 7, 10, 11} {
					for _, c := range []int{1, 4, 7, 10, 11} {
						want := told(api.Denied, max(waits[a], waits[b], waits[c]), 0)
						switch {
						case max(a, b, c) == 11:
							want.Retry = api.Never
						case max(a, b, c) == 1:
							continue
						}
						for _, ask := range asks() {
							check(t, "denied", ask(s, 0, limit("x", p, 10), limit("a", p, a), limit("y", p, 1), limit("b", p, b), limit("c", p, c)), want)
							check(t, "denied", ask(s, -5, limit("c", p, c), limit("b", p, b), limit("a", p, a)), want)
							checkSame(t, "denied", s, before)
						}
					}
				}
			}
		}
	}
}

// TestDeniedByKinds asks for one of each Kind: the wait is the longest of all Kinds, and Never, if it is that of one.
func TestDeniedByKinds(t *testing.T) {
	s := New(5, 9)
	b, g, w, c := small()[0], small()[1], small()[2], small()[3]
	check(t, "kinds", s.Take(30, limit("b", b, 10), limit("g", g, 10), limit("w", w, 10), limit("c", c, 10)), granted())
	before := s.Copy()
	ask := func(retry int, l ...api.Limit) {
		t.Helper()
		check(t, "kinds", s.Take(30, l...), told(api.Denied, retry, 0))
		slices.Reverse(l)
		check(t, "kinds", s.Peek(30, l...), told(api.Denied, retry, 0))
		checkSame(t, "kinds", s, before)
	}
	ask(10, limit("b", b, 1))
	ask(50, limit("b", b, 1), limit("g", g, 5))
	ask(70, limit("b", b, 1), limit("g", g, 5), limit("c", c, 1))
	ask(90, limit("b", b, 9), limit("g", g, 5), limit("c", c, 1))
	ask(100, limit("b", b, 9), limit("g", g, 5), limit("c", c, 1), limit("w", w, 1))
	ask(api.Never, limit("b", b, 11), limit("g", g, 5), limit("c", c, 1), limit("w", w, 1))
	ask(api.Never, limit("b", b, 1), limit("g", g, 11), limit("c", c, 1), limit("w", w, 1))
	ask(api.Never, limit("b", b, 1), limit("g", g, 5), limit("c", c, most), limit("w", w, 1))
	ask(api.Never, limit("b", b, 1), limit("g", g, 5), limit("c", c, 1), limit("w", w, api.MaxLimit))
	// Another one, of which nothing was taken, makes no difference.
	ask(70, limit("x", b, 10), limit("c", c, 1), limit("y", w, 10))
	ask(api.Never, limit("x", b, 11), limit("c", c, 1))
}

// TestNeverByHolds: as long as too much is held there is no room ever, if nothing else is done.
func TestNeverByHolds(t *testing.T) {
	for _, p := range small() {
		s := New(2, 9)
		check(t, "held", s.Reserve(0, 500, limit("a", p, 4)), told(api.Granted, 0, 1))
		check(t, "held", s.Take(0, limit("a", p, 6)), granted())
		before := s.Copy()
		for _, ask := range asks() {
			check(t, "held", ask(s, 0, limit("a", p, 7), limit("b", p, 1)), told(api.Denied, api.Never, 0))
			if got := ask(s, 0, limit("a", p, 6), limit("b", p, 1)); got.Kind != api.Denied || got.Retry < 1 {
				t.Fatal(p, got)
			}
			checkSame(t, "held", s, before)
			check(t, "held", ask(s.Copy(), 499, limit("a", p, 7)), told(api.Denied, api.Never, 0))
		}
		check(t, "no more held", s.Take(500, limit("a", p, 7)), granted())
	}
}

// TestRetryToTheNanosecond: what is denied has room when it is told to, if nothing else is done, and not a nanosecond before.
func TestRetryToTheNanosecond(t *testing.T) {
	draw := scattered()
	waited := 0
	for range 300 {
		l := numbered(1+draw(4), 0, small()...)
		for i := range l {
			l[i].Policy.Limit, l[i].Policy.Period = 1+draw(10), 1+draw(200)
			if l[i].Policy.Burst > 0 {
				l[i].Policy.Burst = 1 + draw(10)
			}
		}
		s := New(1+draw(4), 9)
		now := draw(1000)
		for range 5 {
			for i := range l {
				l[i].Cost = 1 + draw(limiter.Most(l[i].Policy))
			}
			now += draw(30)
			for _, ask := range asks() {
				got := ask(s.Copy(), now, l...)
				if got.Kind != api.Denied {
					continue
				}
				waited++
				if got.Retry < 1 {
					t.Fatal("denied, without a wait:", got)
				}
				for then := now; then < now+got.Retry; then++ {
					check(t, "too early", s.Copy().Take(then, l...), told(api.Denied, now+got.Retry-then, 0))
				}
				check(t, "in time", s.Copy().Take(now+got.Retry, l...), granted())
				check(t, "in time", s.Copy().Reserve(now+got.Retry, 9, l...), told(api.Granted, 0, 1))
			}
			s.Take(now, l...)
		}
	}
	if waited < 1500 {
		t.Fatal("too little was denied to tell:", waited)
	}
}

// TestNoRoomForOne asks for several, for one of which there is no room: nothing is changed, not even the order, in whatever place it stands.
func TestNoRoomForOne(t *testing.T) {
	for _, shards := range []int{1, 2, 3, 7} {
		for _, p := range long() {
			keys := apart(shards)
			s := New(shards, 3)
			var full, mine []api.Limit
			for i, key := range keys {
				full = append(full, limit(key, p, 1))
				// One shard alone has no room: the last one.
				if i == shards-1 {
					for j := 0; len(mine) < 2; j++ {
						if other := "f" + strconv.Itoa(j); shardOf(other, shards) == i {
							mine = append(mine, limit(other, p, 1))
						}
					}
				}
			}
			full = append(full, mine...)
			check(t, "filled", s.Take(0, full...), granted())
			var none, some []api.Limit
			for i := 0; len(none) < 1 || shards > 1 && len(some) < 1; i++ {
				key := "n" + strconv.Itoa(i)
				if shardOf(key, shards) == shards-1 {
					none = append(none, limit(key, p, 1))
				} else {
					some = append(some, limit(key, p, 1))
				}
			}
			before := s.Copy()
			for place := range len(full) + 1 {
				l := slices.Insert(slices.Concat(full, some), place, none[0])
				check(t, "no room", s.Take(1, l...), refused())
				checkSame(t, "no room", s, before)
				check(t, "no room", s.Reserve(1, 5, l...), refused())
				checkSame(t, "no room", s, before)
				check(t, "no room", s.Peek(1, l...), granted())
				checkSame(t, "no room", s, before)
			}
			check(t, "no room", s.Take(1, none[0]), refused())
			check(t, "no room", s.Reserve(1, 1, none[0]), refused())
			checkSame(t, "no room", s, before)
			check(t, "without that one", s.Take(1, slices.Concat(full, some)...), granted())
		}
	}
}

// TestNoRoomBehindSome: some that are new have room, till there is none left for one of them.
func TestNoRoomBehindSome(t *testing.T) {
	p, q := long()[1], open(long()[1])
	for room := range 6 {
		for _, shards := range []int{1, 2} {
			s := New(shards, room)
			l := numbered(2*room+1, 1, p)
			check(t, "new", s.Take(0, l...), refused())
			check(t, "new", s.Reserve(0, 9, l...), refused())
			checkSame(t, "new", s, New(shards, room))
		}
		// Of Open ones each makes room for those behind it, but not while some of it is held.
		check(t, "new, held", New(1, room).Reserve(0, 9, numbered(room+1, 1, q)...), refused())
		check(t, "new, held", New(1, room).Reserve(0, 9, numbered(room, 1, q)...), told(api.Granted, 0, 1))
		if room > 0 {
			check(t, "new, Open", New(1, room).Take(0, numbered(2*room+1, 1, q)...), granted())
		}
	}
}

// TestMakingRoom: what is as new makes room, and of Open ones the OLDEST, as cells have it, one Set behind the other.
func TestMakingRoom(t *testing.T) {
	for i, p := range small() {
		s := New(1, 3)
		q := open(long()[i])
		check(t, "filled", s.Take(0, limit("a", q, 1)), granted())
		check(t, "filled", s.Take(45, limit("b", p, 1)), granted())
		check(t, "filled", s.Take(45, limit("c", long()[i], 1)), granted())
		check(t, "the Open one goes", s.Copy().Take(50, limit("x", long()[i], 1)), granted())
		check(t, "and no other one", s.Copy().Take(50, limit("x", long()[i], 1), limit("y", long()[i], 1)), refused())
		c := s.Copy()
		check(t, "the one that is as new goes first", c.Take(200, limit("x", p, 1)), granted())
		if keys := keysOf(c, 0); !slices.Equal(keys, []string{"a", "c", "x"}) {
			t.Fatal(keys)
		}
		check(t, "both go", c.Take(200, limit("y", q, 1), limit("z", q, 1)), granted())
		// y was Set first, so that it went again, when z came.
		if keys := keysOf(c, 0); !slices.Equal(keys, []string{"c", "x", "z"}) {
			t.Fatal(keys)
		}
		// One that is asked for and Open goes when an earlier one comes; then it comes again.
		c = s.Copy()
		check(t, "itself goes", c.Take(200, limit("x", p, 1), limit("a", q, 1)), granted())
		if keys := keysOf(c, 0); !slices.Equal(keys, []string{"c", "x", "a"}) {
			t.Fatal(keys)
		}
		check(t, "itself goes", c.Take(200, limit("y", p, 1), limit("a", q, 1)), refused())
		if keys := keysOf(c, 0); !slices.Equal(keys, []string{"c", "x", "a"}) {
			t.Fatal(keys)
		}
	}
}

// keysOf are the keys of a shard, from the OLDEST on.
func keysOf(s *Store, shard int) []string {
	var keys []string
	for _, x := range s.shards[shard].All() {
		keys = append(keys, x.Key)
	}
	return keys
}

// TestChargedOnce: what is granted is charged just once of each, at its time; all else is as it was.
func TestChargedOnce(t *testing.T) {
	for _, shards := range []int{1, 2, 64} {
		for _, kind := range []int{api.Take, api.Hold} {
			s := New(shards, 50)
			others := numbered(8, 2, small()...)
			check(t, "others", s.Take(3, others...), granted())
			l := []api.Limit{others[2], others[0], limit("x", small()[1], 3), others[7], limit("y", small()[2], 10), others[5]}
			want := s.Copy()
			for _, x := range l {
				state := do(t, x.Policy, s.Look(x.Key, x.Policy, 9), kind, 9, x.Cost)
				want.shards[shardOf(x.Key, shards)].Set(api.Cell{Key: x.Key, Policy: x.Policy, State: state}, 9)
			}
			if kind == api.Take {
				check(t, "once", s.Take(9, l...), granted())
			} else {
				check(t, "once", s.Reserve(9, 4, l...), told(api.Granted, 0, 1))
				want.ledger.Add(13, l...)
			}
			checkSame(t, "once", s, want)
		}
	}
}

// TestOneUnitEach takes 1 again and again: there is just as much as the policy says.
func TestOneUnitEach(t *testing.T) {
	for i, p := range small() {
		s := New(3, 9)
		for range 10 {
			check(t, "unit", s.Peek(0, limit("a", p, 1)), granted())
			check(t, "unit", s.Take(0, limit("a", p, 1)), granted())
		}
		wait := []int{10, 10, 100, 100}[i]
		check(t, "unit", s.Take(0, limit("a", p, 1)), told(api.Denied, wait, 0))
		check(t, "unit", s.Reserve(0, 5, limit("a", p, 1)), told(api.Denied, wait, 0))
		check(t, "unit", s.Take(0, limit("b", p, 1)), granted())
	}
}

// TestPeek tells what Take would, but for want of room, and changes nothing but by Expire.
func TestPeek(t *testing.T) {
	draw := scattered()
	counts := map[int]int{}
	for range 300 {
		s := New(1+draw(3), draw(4))
		now := 0
		p := small()[draw(4)]
		for range 20 {
			now += draw(20)
			l := numbered(draw(4), 1+draw(6), p)
			s.Expire(now)
			before := s.Copy()
			peeked := s.Peek(now, l...)
			checkSame(t, "peeked", s, before)
			taken := before.Copy().Take(now, l...)
			counts[taken.Kind]++
			if taken.Kind == api.NoRoom {
				check(t, "peeked", peeked, granted())
			} else {
				check(t, "peeked", peeked, taken)
			}
			switch draw(3) {
			case 0:
				s.Take(now, l...)
			case 1:
				s.Reserve(now, draw(40), l...)
			}
		}
	}
	if counts[api.Granted] < 1000 || counts[api.Denied] < 500 || counts[api.NoRoom] < 500 {
		t.Fatal("too little happened to tell:", counts)
	}
}

// TestExpireFirst: each call that asks or changes does Expire of its now first, whatever it tells then.
func TestExpireFirst(t *testing.T) {
	for _, p := range small() {
		begin := func() *Store {
			s := New(3, 9)
			check(t, "begin", s.Reserve(0, 10, limit("a", p, 8)), told(api.Granted, 0, 1))
			check(t, "begin", s.Reserve(0, 20, limit("b", p, 1)), told(api.Granted, 0, 2))
			check(t, "begin", s.Reserve(0, 5, limit("c", p, 1)), told(api.Granted, 0, 3))
			return s
		}
		for i, call := range []func(s *Store, now int){
			func(s *Store, now int) { s.Peek(now) },
			func(s *Store, now int) { s.Peek(now, limit("z", p, 0)) },
			func(s *Store, now int) { s.Peek(now, limit("z", p, 11)) },
			func(s *Store, now int) { s.Take(now) },
			func(s *Store, now int) { s.Take(now, limit("z", p, 0)) },
			func(s *Store, now int) { s.Take(now, limit("z", p, 11)) },
			func(s *Store, now int) { s.Reserve(now, 5, limit("z", p, 0)) },
			func(s *Store, now int) { s.Reserve(now, 5, limit("z", p, 11)) },
			func(s *Store, now int) { s.Commit(now, 77, 1) },
			func(s *Store, now int) { s.Commit(now, 0, -1) },
			func(s *Store, now int) { s.Cancel(now, -1) },
		} {
			for _, now := range append(edges(), 4, 5, 9, 10, 11, 19, 20, 21) {
				s, want := begin(), begin()
				want.Expire(now)
				call(s, now)
				checkSame(t, "Expire first, "+strconv.Itoa(i), s, want)
			}
		}
		// What was held is there again for the call itself.
		check(t, "not due", begin().Take(9, limit("a", p, 10)), told(api.Denied, api.Never, 0))
		check(t, "due", begin().Take(10, limit("a", p, 10)), granted())
		check(t, "due", begin().Peek(10, limit("a", p, 10)), granted())
		check(t, "due", begin().Reserve(10, 1, limit("a", p, 10)), told(api.Granted, 0, 4))
		checkErrno(t, "not due", begin().Commit(9, 1, -1), api.OK)
		checkErrno(t, "due", begin().Commit(10, 1, -1), api.ErrNone)
		checkErrno(t, "not due", begin().Cancel(9, 1), api.OK)
		checkErrno(t, "due", begin().Cancel(10, 1), api.ErrNone)
	}
}

// TestExpire tells how many dues there were, each of which it releases at its own Till, in the order of these.
func TestExpire(t *testing.T) {
	for _, p := range small() {
		for _, shards := range []int{1, 5} {
			s := New(shards, 9)
			for i, last := range []int{30, 10, 20, 10, 40} {
				check(t, "held", s.Reserve(0, last, limit("a", p, 1), limit("k"+strconv.Itoa(i), p, 2)), told(api.Granted, 0, i+1))
			}
			check(t, "held", s.Reserve(0, 10), told(api.Granted, 0, 6))
			if got := s.Expire(9); got != 0 {
				t.Fatal("not due yet:", got)
			}
			if got := s.Copy().Expire(10); got != 3 {
				t.Fatal("due:", got)
			}
			want := s.Copy()
			for _, x := range []struct{ id, till int }{{2, 10}, {4, 10}, {6, 10}, {3, 20}, {1, 30}} {
				due, _ := want.ledger.Remove(x.id)
				for _, y := range due.Limits {
					state := do(t, p, want.Look(y.Key, p, x.till), api.Release, x.till, y.Cost)
					want.shards[shardOf(y.Key, shards)].Set(api.Cell{Key: y.Key, Policy: p, State: state}, x.till)
				}
			}
			if got := s.Expire(39); got != 5 {
				t.Fatal("due:", got)
			}
			checkSame(t, "due", s, want)
			if s.Look("a", p, 0).At != 30 {
				t.Fatal("released not at its Till, but at", s.Look("a", p, 0).At)
			}
			checkHeld(t, "due", s, api.Due{ID: 5, Till: 40, Limits: []api.Limit{limit("a", p, 1), limit("k4", p, 2)}})
			if got := s.Expire(39); got != 0 {
				t.Fatal("due again:", got)
			}
			if got := s.Expire(-1); got != 0 {
				t.Fatal("due at an earlier time:", got)
			}
			checkSame(t, "due", s, want)
			if got := s.Expire(most); got != 1 {
				t.Fatal("due:", got)
			}
			// All that was held is released, and no more was taken: all is as new, and nothing is kept.
			if s.Len() != 0 || len(s.Held()) != 0 {
				t.Fatal(s.Len(), s.Held())
			}
		}
	}
}

// TestReleasedAtTill: what comes behind a Till, and ahead of the Expire that finds it, drops into a bucket that is released already; and a state whose clock is ahead of the Till keeps its own time.
func TestReleasedAtTill(t *testing.T) {
	p := small()[0]
	s := New(1, 9)
	check(t, "at its Till", s.Take(0, limit("a", p, 10)), granted())
	check(t, "at its Till", s.Reserve(50, 10, limit("a", p, 5)), told(api.Granted, 0, 1))
	// 5 at 50, all held; at 60 there is 1, and 5 are released; 6 at 60.
	s.Expire(100)
	checkLook(t, "at its Till", s, limit("a", p, 0), 100, api.State{At: 60, Level: 600})
	for _, p := range small() {
		s := New(1, 9)
		check(t, "ahead", s.Reserve(90, 50, limit("a", p, 5)), told(api.Granted, 0, 1))
		check(t, "ahead", s.Take(130, limit("a", p, 2)), granted())
		check(t, "ahead", s.Reserve(5, 3, limit("a", p, 2)), told(api.Granted, 0, 2))
		before := s.Look("a", p, 0)
		if before.At != 130 || before.Held != 7 {
			t.Fatal(before)
		}
		s.Expire(8)
		checkLook(t, "ahead", s, limit("a", p, 0), 8, do(t, p, before, api.Release, 8, 2))
		if got := s.Look("a", p, 0); got.At != 130 || got.Held != 5 {
			t.Fatal(got)
		}
	}
}

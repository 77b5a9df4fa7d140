package store

import (
	"slices"
	"strconv"
	"testing"

	"tapster/api"
	"tapster/limiter"
)

// TestTill: what is reserved is a Due of num.Later of now and last, and of all that was asked for.
func TestTill(t *testing.T) {
	for _, p := range small() {
		for _, now := range append(edges(), 77) {
			for _, last := range append(edges(), 77) {
				s := New(2, 9)
				l := []api.Limit{limit("b", p, 3), limit("a", p, 4)}
				till := min(clipped(now)+clipped(last), late)
				check(t, "till", s.Reserve(now, last, l...), told(api.Granted, 0, 1))
				checkHeld(t, "till", s, api.Due{ID: 1, Till: till, Limits: l})
				for _, x := range l {
					checkLook(t, "till", s, x, now, do(t, p, limiter.New(p, now), api.Hold, now, x.Cost))
				}
				if till > 0 {
					if got := s.Expire(till - 1); got != 0 {
						t.Fatal("due too early:", now, last, got)
					}
				}
				// One that lasts for no time is due at once, but not ahead of the next call.
				if got := s.Expire(till); got != 1 || s.Len() != 0 || len(s.Held()) != 0 {
					t.Fatal("not due:", now, last, got, s.Len())
				}
			}
		}
	}
}

// TestIDs are told once and rise, whatever was committed, cancelled, due, or refused.
func TestIDs(t *testing.T) {
	p := small()[3]
	s := New(3, 5)
	last := 0
	for round := range 60 {
		now := 1000 * round
		for range 3 {
			last++
			check(t, "IDs", s.Reserve(now, 10, limit("a", p, 1)), told(api.Granted, 0, last))
		}
		check(t, "IDs", s.Reserve(now, 10, limit("a", p, 11)), told(api.Denied, api.Never, 0))
		check(t, "IDs", s.Reserve(now, 10, limit("a", p, 0)), refused())
		check(t, "IDs", s.Reserve(now, 10, numbered(30, 1, p)...), refused())
		checkErrno(t, "IDs", s.Cancel(now, last+1), api.ErrNone)
		switch round % 4 {
		case 0:
			checkErrno(t, "IDs", s.Cancel(now, last), api.OK)
		case 1:
			checkErrno(t, "IDs", s.Commit(now, last, -1), api.OK)
		case 2:
			s.Expire(now + 10)
		default:
			s = s.Copy()
		}
		checkNext(t, "IDs", s, last+1)
	}
}

// fullOfHolds is a Store in which as much is reserved as may be, each of nothing, till 100 and later, and one unit of "a", till 500.
func fullOfHolds(t testing.TB, p api.Policy) *Store {
	t.Helper()
	s := New(2, 9)
	for i := range 999 {
		check(t, "full of holds", s.Reserve(0, 100+i), told(api.Granted, 0, i+1))
	}
	check(t, "full of holds", s.Reserve(0, 500, limit("a", p, 1)), told(api.Granted, 0, 1000))
	return s
}

// TestFullOfHolds: no more is reserved than may be, and nothing is held by what is refused.
func TestFullOfHolds(t *testing.T) {
	for _, p := range small() {
		s := fullOfHolds(t, p)
		before := s.Copy()
		for _, l := range [][]api.Limit{nil, {limit("a", p, 1)}, {limit("b", p, 1)}, {limit("c", p, 9), limit("b", p, 10), limit("a", p, 9)}} {
			for _, now := range []int{least, 0, 5, 99} {
				for _, last := range []int{least, 0, 9, most} {
					check(t, "full", s.Reserve(now, last, l...), refused())
					checkSame(t, "full", s, before)
					check(t, "full", s.Copy().Take(now, l...), granted())
					check(t, "full", s.Peek(now, l...), granted())
				}
			}
		}
		// What is too much is denied, as Take would have it.
		check(t, "full", s.Reserve(5, 9, limit("a", p, 10), limit("b", p, 1)), told(api.Denied, api.Never, 0))
		check(t, "full", s.Reserve(5, 9, limit("b", p, 0)), refused())
		checkSame(t, "full", s, before)
		for i, room := range []func(s *Store){
			func(s *Store) { checkErrno(t, "room", s.Cancel(6, 1), api.OK) },
			func(s *Store) { checkErrno(t, "room", s.Cancel(6, 1000), api.OK) },
			func(s *Store) { checkErrno(t, "room", s.Commit(6, 500, 7), api.OK) },
			func(s *Store) { checkErrno(t, "room", s.Commit(6, 1000, -1), api.OK) },
		} {
			c := s.Copy()
			room(c)
			check(t, "room again, "+strconv.Itoa(i), c.Reserve(7, 9, limit("b", p, 2)), told(api.Granted, 0, 1001))
			check(t, "full again, "+strconv.Itoa(i), c.Reserve(7, 9, limit("b", p, 2)), refused())
		}
		// One is due at 100: it is gone ahead of the question.
		check(t, "one is due", s.Reserve(100, 400, limit("b", p, 2)), told(api.Granted, 0, 1001))
		check(t, "full again", s.Reserve(100, 400, limit("b", p, 2)), refused())
		check(t, "many are due", s.Reserve(300, 400, limit("b", p, 2)), told(api.Granted, 0, 1002))
		if got := s.Expire(most); got != 801 {
			t.Fatal("due:", got)
		}
	}
}

// settled is what a commit of most makes of a state of which cost is held.
func settled(t testing.TB, p api.Policy, s api.State, now, cost, most int) api.State {
	t.Helper()
	part := cost
	if most >= 0 {
		part = min(most, cost)
	}
	if part > 0 {
		s = do(t, p, s, api.Commit, now, part)
	}
	if part < cost {
		s = do(t, p, s, api.Release, now, cost-part)
	}
	return s
}

// TestCommit is of most below 0, of 0, of less than a Cost, of just that, and of more, with limits of several Costs.
func TestCommit(t *testing.T) {
	for _, p := range small() {
		for _, shards := range []int{1, 4} {
			for _, most := range []int{least, -2, -1, 0, 1, 2, 3, 4, 5, 6, 7, 8, 9, 10, 11, 1 << 32, most} {
				for _, now := range []int{least, 0, 20, 25, 110, 699} {
					s := New(shards, 20)
					l := []api.Limit{limit("c", p, 3), limit("a", p, 7), limit("d", p, 1), limit("b", p, 4)}
					check(t, "commit", s.Take(15, limit("a", p, 2), limit("b", p, 1), limit("x", p, 5)), granted())
					check(t, "commit", s.Reserve(19, 681, limit("a", p, 1)), told(api.Granted, 0, 1))
					check(t, "commit", s.Reserve(20, 680, l...), told(api.Granted, 0, 2))
					want := s.Copy()
					gone, _ := want.ledger.Remove(2)
					for _, x := range gone.Limits {
						state := settled(t, p, s.Look(x.Key, p, now), now, x.Cost, most)
						want.shards[shardOf(x.Key, shards)].Set(api.Cell{Key: x.Key, Policy: p, State: state}, now)
					}
					checkErrno(t, "commit", s.Commit(now, 2, most), api.OK)
					checkSame(t, "commit of "+strconv.Itoa(most), s, want)
					checkErrno(t, "commit again", s.Commit(now, 2, most), api.ErrNone)
					checkErrno(t, "commit again", s.Cancel(now, 2), api.ErrNone)
					checkSame(t, "commit again", s, want)
				}
			}
		}
	}
}

// TestNoSuchID: what there never was, was committed, cancelled or due is none, and nothing is changed.
func TestNoSuchID(t *testing.T) {
	for _, p := range small() {
		s := New(3, 9)
		for id := 1; id <= 5; id++ {
			check(t, "IDs", s.Reserve(0, 10*id, limit("a", p, 1), limit("b", p, 1)), told(api.Granted, 0, id))
		}
		checkErrno(t, "IDs", s.Commit(5, 2, 1), api.OK)
		checkErrno(t, "IDs", s.Cancel(5, 3), api.OK)
		if got := s.Expire(10); got != 1 {
			t.Fatal("due:", got)
		}
		before := s.Copy()
		for _, id := range []int{least, -4, -1, 0, 1, 2, 3, 6, 7, 1000, 1<<32 + 4, most} {
			for _, now := range []int{least, 0, 5, 39} {
				for _, part := range []int{least, -1, 0, 1, most} {
					checkErrno(t, "none", s.Commit(now, id, part), api.ErrNone)
				}
				checkErrno(t, "none", s.Cancel(now, id), api.ErrNone)
			}
		}
		checkSame(t, "none", s, before)
		checkErrno(t, "due at just that time", s.Copy().Commit(40, 4, -1), api.ErrNone)
		checkErrno(t, "due at just that time", s.Copy().Cancel(40, 4), api.ErrNone)
		checkErrno(t, "not due", s.Copy().Commit(39, 4, -1), api.OK)
		checkErrno(t, "not due", s.Cancel(39, 4), api.OK)
		checkErrno(t, "twice", s.Cancel(39, 4), api.ErrNone)
	}
}

// TestCancel is Commit of nothing.
func TestCancel(t *testing.T) {
	for _, p := range small() {
		for _, now := range []int{least, 0, 3, 7, 60, 99} {
			s := New(3, 9)
			check(t, "cancel", s.Take(2, limit("a", p, 2)), granted())
			check(t, "cancel", s.Reserve(5, 95, limit("b", p, 10), limit("a", p, 3)), told(api.Granted, 0, 1))
			check(t, "cancel", s.Reserve(6, 95, limit("a", p, 5)), told(api.Granted, 0, 2))
			want := s.Copy()
			checkErrno(t, "cancel", want.Commit(now, 1, 0), api.OK)
			checkErrno(t, "cancel", s.Cancel(now, 1), api.OK)
			checkSame(t, "cancel", s, want)
			if held := s.Look("a", p, now).Held; held != 5 {
				t.Fatal("held:", held)
			}
			checkErrno(t, "cancel twice", s.Cancel(now, 1), api.ErrNone)
			checkSame(t, "cancel twice", s, want)
			checkErrno(t, "cancel", s.Cancel(99, 2), api.OK)
			if held := s.Look("a", p, 99).Held; held != 0 {
				t.Fatal("held:", held)
			}
			check(t, "all is there again", s.Take(150, limit("a", p, 10), limit("b", p, 10)), granted())
		}
	}
}

// TestAsAhead: what was reserved and cancelled, or was due, leaves room for as much as ahead of it, at all times then.
func TestAsAhead(t *testing.T) {
	draw := scattered()
	for range 400 {
		for _, p := range small() {
			s := New(1+draw(3), 9)
			now := draw(300)
			for _, key := range []string{"a", "b"} {
				if cost := draw(8); cost > 0 {
					check(t, "ahead", s.Take(now, limit(key, p, cost)), granted())
				}
			}
			now += draw(60)
			without := s.Copy()
			l := []api.Limit{limit("a", p, 1+draw(3)), limit("b", p, 1+draw(3))}
			if s.Reserve(now, draw(80), l...).Kind != api.Granted {
				continue
			}
			now += draw(90)
			if s.Cancel(now, 1) == api.ErrNone {
				without.Expire(now)
			}
			for range 20 {
				for _, x := range l {
					got, want := limiter.Room(p, s.Look(x.Key, p, now), now), limiter.Room(p, without.Look(x.Key, p, now), now)
					if got != want {
						t.Fatalf("%v: room for %d at %d, not for %d", p, got, now, want)
					}
				}
				now += draw(12)
			}
		}
	}
}

// TestAsTaken: what is committed is as if it had been taken then; and a part of it as if that part had been.
func TestAsTaken(t *testing.T) {
	draw := scattered()
	for range 400 {
		for _, p := range small() {
			s := New(1+draw(3), 9)
			now := draw(300)
			if cost := draw(8); cost > 0 {
				check(t, "taken", s.Take(now, limit("a", p, cost)), granted())
			}
			now += draw(60)
			want := s.Copy()
			cost := 1 + draw(4)
			if s.Reserve(now, 1000, limit("a", p, cost), limit("b", p, 2)).Kind != api.Granted {
				continue
			}
			now += draw(90)
			part := draw(cost+3) - 1
			checkErrno(t, "taken", s.Commit(now, 1, part), api.OK)
			for key, cost := range map[string]int{"a": cost, "b": 2} {
				if part >= 0 {
					cost = min(part, cost)
				}
				if cost > 0 {
					check(t, "taken", want.Take(now, limit(key, p, cost)), granted())
				}
				then := now + draw(20)
				got, want := limiter.Advance(p, s.Look(key, p, then), then), limiter.Advance(p, want.Look(key, p, then), then)
				if !sameState(got, want) {
					t.Fatalf("%v: of %q %v, not %v", p, key, got, want)
				}
			}
		}
	}
}

// TestRefusedRelease: where another policy took the key's place, nothing is held of it any more: a release or a commit is refused, and Sets nothing.
func TestRefusedRelease(t *testing.T) {
	for i, p := range small() {
		for _, q := range []api.Policy{open(p), small()[(i+1)%4], long()[i]} {
			begin := func() *Store {
				s := New(2, 9)
				check(t, "refused", s.Reserve(0, 50, limit("a", p, 3), limit("b", p, 2)), told(api.Granted, 0, 1))
				check(t, "refused", s.Take(1, limit("a", q, 4), limit("c", q, 1)), granted())
				return s
			}
			a := do(t, q, limiter.New(q, 1), api.Take, 1, 4)
			for j, end := range []func(s *Store){
				func(s *Store) { checkErrno(t, "refused", s.Commit(9, 1, -1), api.OK) },
				func(s *Store) { checkErrno(t, "refused", s.Commit(9, 1, 1), api.OK) },
				func(s *Store) { checkErrno(t, "refused", s.Cancel(9, 1), api.OK) },
				func(s *Store) { s.Expire(50) },
				func(s *Store) { s.Take(70) },
			} {
				s := begin()
				order := keysOf(s, shardOf("a", 2))
				end(s)
				checkLook(t, "refused", s, limit("a", q, 0), 9, a)
				if got := keysOf(s, shardOf("a", 2)); shardOf("b", 2) != shardOf("a", 2) && !slices.Equal(got, order) {
					t.Fatal(j, order, got)
				}
				if held := s.Look("b", p, 9).Held; held != 0 || len(s.Held()) != 0 {
					t.Fatal(j, held, s.Held())
				}
				checkLook(t, "refused", s, limit("a", p, 0), 9, limiter.New(p, 9))
			}
			// Less is held by p than there was: the whole is refused, though a part could be.
			s := begin()
			check(t, "less", s.Reserve(2, 90, limit("a", p, 2)), told(api.Granted, 0, 2))
			before := s.Look("a", p, 2)
			if before.Held != 2 {
				t.Fatal(before)
			}
			c := s.Copy()
			checkErrno(t, "less", c.Cancel(3, 1), api.OK)
			checkLook(t, "less", c, limit("a", p, 0), 3, before)
			c = s.Copy()
			c.Expire(50)
			checkLook(t, "less", c, limit("a", p, 0), 3, before)
			// Each act is asked for by itself: 1 is committed, the release of the 2 that are left is refused.
			checkErrno(t, "less", s.Commit(3, 1, 1), api.OK)
			checkLook(t, "less", s, limit("a", p, 0), 3, do(t, p, before, api.Commit, 3, 1))
		}
	}
}

// TestHeldStays: what is held is never forgotten for want of room, also where its policy is Open.
func TestHeldStays(t *testing.T) {
	for _, p := range small() {
		s := New(1, 2)
		p = open(p)
		check(t, "held", s.Reserve(0, 5000, limit("a", p, 3)), told(api.Granted, 0, 1))
		for i := range 50 {
			check(t, "held", s.Take(100*i, limit("k"+strconv.Itoa(i), p, 3)), granted())
		}
		check(t, "held", s.Reserve(4999, 5000, limit("b", p, 3)), told(api.Granted, 0, 2))
		check(t, "held", s.Take(4999, limit("c", p, 1)), refused())
		check(t, "held", s.Take(5000, limit("c", p, 1)), granted())
		if got := keysOf(s, 0); !slices.Equal(got, []string{"b", "c"}) {
			t.Fatal(got)
		}
	}
}

// changes are such as may be done to a Store, of whatever is in it.
func changes() []func(s *Store) {
	p := long()[2]
	return []func(s *Store){
		func(s *Store) { s.Take(50, limit("a", p, 1), limit("k1", p, 1), limit("new", p, 2)) },
		func(s *Store) { s.Take(50, limit("k0", p, 1)) },
		func(s *Store) { s.Reserve(50, 9, limit("a", p, 2), limit("new", p, 2)) },
		func(s *Store) { s.Reserve(50, 0) },
		func(s *Store) { s.Commit(50, 1, 1) },
		func(s *Store) { s.Cancel(50, 2) },
		func(s *Store) { s.Expire(120) },
		func(s *Store) { s.Expire(most) },
		func(s *Store) { s.Peek(most) },
		func(s *Store) { spoilStore(s) },
	}
}

// begun is a Store in which some is taken, and some held.
func begun(t testing.TB, shards int) *Store {
	t.Helper()
	p := long()[2]
	s := New(shards, 9)
	check(t, "begun", s.Take(3, numbered(6, 3, append(long(), p)...)...), granted())
	check(t, "begun", s.Take(4, numbered(6, 2, append(long(), p)...)...), granted())
	check(t, "begun", s.Reserve(5, 200, limit("a", p, 2), limit("k2", p, 2)), told(api.Granted, 0, 1))
	check(t, "begun", s.Reserve(6, 100, limit("a", p, 2), limit("b", p, 2)), told(api.Granted, 0, 2))
	return s
}

// TestCopy: a copy is the same, and whatever is done to one the other knows nothing of it.
func TestCopy(t *testing.T) {
	for _, shards := range []int{1, 2, 64} {
		for i, change := range changes() {
			when := "copy, " + strconv.Itoa(i)
			s := begun(t, shards)
			c := s.Copy()
			checkSame(t, when, c, begun(t, shards))
			change(c)
			checkSame(t, when+", the origin", s, begun(t, shards))
			c = s.Copy()
			change(s)
			checkSame(t, when+", the copy", c, begun(t, shards))
			for j, other := range changes() {
				when := when + ", then " + strconv.Itoa(j)
				a, b := begun(t, shards), begun(t, shards)
				change(a)
				change(b)
				c := a.Copy()
				other(c)
				checkSame(t, when+", the origin", a, b)
				other(b)
				checkSame(t, when+", the copy", c, b)
			}
		}
	}
	s := New(3, 0).Copy()
	check(t, "a copy of an empty one", s.Take(0, limit("a", small()[0], 1)), refused())
	checkSame(t, "a copy of an empty one", s, New(3, 0))
}

// TestTwo know nothing of one another.
func TestTwo(t *testing.T) {
	for _, change := range changes() {
		s, c := begun(t, 3), begun(t, 3)
		change(s)
		checkSame(t, "the other", c, begun(t, 3))
	}
	s, c := New(2, 9), New(2, 9)
	p := small()[0]
	check(t, "two", s.Reserve(0, 9, limit("a", p, 10)), told(api.Granted, 0, 1))
	check(t, "two", c.Reserve(0, 9, limit("a", p, 10)), told(api.Granted, 0, 1))
	checkErrno(t, "two", s.Cancel(0, 1), api.OK)
	checkErrno(t, "two", c.Commit(0, 1, -1), api.OK)
}

// whole is all that a list has, with the room behind it.
func whole[T any](l []T) []T {
	return l[:cap(l)]
}

// fill writes x over all of l, and over the room behind it.
func fill[T any](l []T, x T) {
	for i := range whole(l) {
		whole(l)[i] = x
	}
}

// spoilStates, spoilDues and spoilStore write over what comes out.
func spoilStates(l ...api.State) {
	for _, s := range l {
		fill(s.Log, api.Entry{T: -7, Cost: -7})
	}
}

func spoilDues(l []api.Due) {
	for _, x := range l {
		fill(x.Limits, limit("spoilt", api.Policy{}, -7))
	}
	fill(l, api.Due{ID: -7, Till: -7})
}

func spoilStore(s *Store) {
	p := long()[2]
	for _, key := range []string{"a", "b", "k2", "k4", "k5", "none"} {
		spoilStates(s.Look(key, p, 0))
	}
	spoilDues(s.Held())
	fill(s.Shards(limit("a", p, 1), limit("k2", p, 1), limit("b", p, 1)), -7)
}

// TestSpoilt: states, dues and shards that are spoilt as they came out change nothing, here or there, nor what came out before.
func TestSpoilt(t *testing.T) {
	p := long()[2]
	for _, shards := range []int{1, 3} {
		s := begun(t, shards)
		c := s.Copy()
		look, held, rising := s.Look("k2", p, 0), s.Held(), s.Shards(limit("a", p, 1), limit("b", p, 1))
		if len(look.Log) != 2 || len(held) != 2 {
			t.Fatal(look, held)
		}
		spoilStore(s)
		spoilStore(c)
		checkSame(t, "spoilt", s, begun(t, shards))
		checkSame(t, "spoilt, the copy", c, begun(t, shards))
		checkLook(t, "spoilt", s, limit("k2", p, 0), 0, look)
		checkHeld(t, "spoilt", s, held...)
		if !slices.Equal(rising, s.Shards(limit("a", p, 1), limit("b", p, 1))) {
			t.Fatal(rising)
		}
		// Of one list no two share any.
		fill(held[0].Limits, limit("spoilt", p, 1))
		if got := s.Held(); !sameDue(got[1], held[1]) {
			t.Fatal(got, held)
		}
	}
}

// TestHandedIn: limits that are handed in are not changed, nor is the room behind them; spoilt behind a call, they change nothing.
func TestHandedIn(t *testing.T) {
	p := long()[2]
	for i, call := range []func(s *Store, l []api.Limit){
		func(s *Store, l []api.Limit) { s.Take(7, l...) },
		func(s *Store, l []api.Limit) { s.Peek(7, l...) },
		func(s *Store, l []api.Limit) { s.Reserve(7, 50, l...); s.Held() },
		func(s *Store, l []api.Limit) { s.Reserve(7, 50, l...); s.Commit(8, 3, 1) },
		func(s *Store, l []api.Limit) { s.Reserve(7, 50, l...); s.Cancel(8, 3) },
		func(s *Store, l []api.Limit) { s.Reserve(7, 1, l...); s.Expire(8) },
		func(s *Store, l []api.Limit) { s.Take(7, limit("z", p, 9)); s.Take(7, l...) },
		func(s *Store, l []api.Limit) { s.Take(7, limit("a", p, 1), limit("a", p, 1)); s.Take(7, l...) },
		func(s *Store, l []api.Limit) { s.Shards(l...) },
	} {
		l := make([]api.Limit, 3, 6)
		l[0], l[1], l[2] = limit("z", p, 2), limit("a", p, 3), limit("k0", p, 1)
		before := slices.Clone(whole(l))
		s, want := begun(t, 2), begun(t, 2)
		call(want, slices.Clone(l))
		call(s, l[:3:3])
		call(begun(t, 2), l)
		if !slices.Equal(whole(l), before) {
			t.Fatalf("%d: %v was made %v", i, before, whole(l))
		}
		fill(l, limit("spoilt", api.Policy{}, -7))
		checkSame(t, "handed in, "+strconv.Itoa(i), s, want)
	}
}

// TestNil asks a Store that is none, and such as New did not make.
func TestNil(t *testing.T) {
	var noughts Store
	byValue := noughts
	for _, s := range []*Store{nil, new(Store), &noughts, &byValue} {
		for range 2 {
			for i, p := range append(small(), api.Policy{}) {
				for _, l := range [][]api.Limit{nil, {}, {limit("a", p, 1)}, {limit("a", p, 0)}, {limit("a", p, 11), limit("b", p, 1)}} {
					for _, now := range edges() {
						check(t, "nil", s.Take(now, l...), refused())
						check(t, "nil", s.Peek(now, l...), refused())
						check(t, "nil", s.Reserve(now, i, l...), refused())
						checkErrno(t, "nil", s.Commit(now, i, now), api.ErrNil)
						checkErrno(t, "nil", s.Cancel(now, i), api.ErrNil)
						checkLook(t, "nil", s, limit("a", p, 0), now, limiter.New(p, now))
						if got := s.Expire(now); got != 0 {
							t.Fatal("Expire:", got)
						}
					}
					if got := s.Shards(l...); len(got) != 0 {
						t.Fatal("Shards:", got)
					}
				}
			}
			if s.Len() != 0 || len(s.Held()) != 0 || s.Copy() != nil {
				t.Fatal(s.Len(), s.Held(), s.Copy())
			}
		}
	}
}

// TestByValue: a Store that was copied by value is the same one by another name, so that no room is granted twice.
func TestByValue(t *testing.T) {
	p := small()[1]
	s := New(3, 9)
	c := *s
	check(t, "by value", c.Take(0, limit("a", p, 6), limit("b", p, 1)), granted())
	check(t, "by value", s.Take(0, limit("a", p, 6), limit("b", p, 1)), told(api.Denied, 20, 0))
	check(t, "by value", s.Reserve(0, 9, limit("a", p, 1), limit("b", p, 1)), told(api.Granted, 0, 1))
	checkErrno(t, "by value", c.Cancel(0, 1), api.OK)
	checkSame(t, "by value", s, &c)
}

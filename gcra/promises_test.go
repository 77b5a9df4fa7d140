package gcra

import (
	"math/big"
	"testing"

	"tapster/api"
	"tapster/bucket"
)

// The exact answers are the document's words, in numbers without an end.

func number(n int) *big.Int { return big.NewInt(int64(n)) }

func times(a, b int) *big.Int { return new(big.Int).Mul(number(a), number(b)) }

func sum(a, b *big.Int) *big.Int { return new(big.Int).Add(a, b) }

func less(a, b *big.Int) *big.Int { return new(big.Int).Sub(a, b) }

func between(n int, from, till *big.Int) bool {
	return number(n).Cmp(from) >= 0 && number(n).Cmp(till) <= 0
}

func exactCheck(p api.Policy) bool {
	one := number(1)
	return p.Kind == 2 && between(p.Limit, one, number(1<<20)) && between(p.Burst, one, number(1<<20)) && between(p.Period, one, number(1<<40)) && p.Cap == 0
}

func exactClamp(n int) int {
	if n < 0 {
		return 0
	}
	if n > 1<<53 {
		return 1 << 53
	}
	return n
}

func exactRight(p api.Policy, s api.State) bool {
	none := number(0)
	return exactCheck(p) && between(s.At, none, number(1<<53)) && between(s.Held, none, number(p.Burst)) && between(s.Level, times(s.Held, p.Period), times(p.Burst, p.Period)) && len(s.Log) == 0
}

// exactAdvance is asked of Right states alone, as are the others below.
func exactAdvance(p api.Policy, s api.State, now int) api.State {
	at := s.At
	if n := exactClamp(now); n > at {
		at = n
	}
	level := less(number(s.Level), times(p.Limit, at-s.At))
	if kept := times(s.Held, p.Period); level.Cmp(kept) < 0 {
		level = kept
	}
	return api.State{At: at, Level: int(level.Int64()), Held: s.Held}
}

// exactRoom tries whether cost has room.
func exactRoom(p api.Policy, advanced api.State, cost int) bool {
	return sum(times(cost, p.Period), number(advanced.Level)).Cmp(times(p.Burst, p.Period)) <= 0
}

func exactDo(p api.Policy, s, advanced api.State, a api.Act) (api.State, bool) {
	enough := exactRoom(p, advanced, a.Cost)
	if a.Kind == api.Release || a.Kind == api.Commit {
		enough = a.Cost <= advanced.Held
	}
	if a.Cost < 1 || a.Kind < 1 || a.Kind > 4 || !enough {
		return api.State{At: s.At, Level: s.Level, Held: s.Held}, false
	}
	debts := [5]int{0, 1, 1, -1, 0}
	holds := [5]int{0, 0, 1, -1, -1}
	level := sum(number(advanced.Level), times(debts[a.Kind]*a.Cost, p.Period))
	return api.State{At: advanced.At, Level: int(level.Int64()), Held: advanced.Held + holds[a.Kind]*a.Cost}, true
}

// exactWait is the least time, by Limit parts each nanosecond, after which no more than level are owed.
func exactWait(p api.Policy, advanced api.State, level *big.Int) int {
	above := less(number(advanced.Level), level)
	if above.Sign() <= 0 {
		return 0
	}
	n, rest := new(big.Int).QuoRem(above, number(p.Limit), new(big.Int))
	if rest.Sign() > 0 {
		n = sum(n, number(1))
	}
	return int(n.Int64())
}

func exactUntil(p api.Policy, advanced api.State) int {
	if advanced.Held > 0 {
		return -1
	}
	return exactWait(p, advanced, number(0))
}

func exactRetry(p api.Policy, advanced api.State, cost int) (int, bool) {
	if cost < 1 || cost > p.Burst-advanced.Held {
		return 0, false
	}
	return exactWait(p, advanced, less(times(p.Burst, p.Period), times(cost, p.Period))), true
}

// checkAll holds every call against the exact answers.
func checkAll(t *testing.T, p api.Policy, s api.State, now int, kinds, costs []int) {
	t.Helper()
	fresh, errno := api.State{}, api.ErrArg
	if exactCheck(p) {
		fresh, errno = api.State{At: exactClamp(now)}, api.OK
	}
	if got := Check(p); got != errno {
		t.Fatalf("Check(%v): %d", p, got)
	}
	if got := New(p, now); !same(got, fresh) {
		t.Fatalf("New(%v, %d): %v", p, now, got)
	}
	if exactRight(p, s) {
		checkRight(t, p, s, now, kinds, costs)
		return
	}
	for _, kind := range kinds {
		for _, cost := range costs {
			checkNoughts(t, p, s, now, kind, cost)
		}
	}
}

func checkRight(t *testing.T, p api.Policy, s api.State, now int, kinds, costs []int) {
	t.Helper()
	advanced := exactAdvance(p, s, now)
	if !Right(p, s) {
		t.Fatalf("not Right(%v, %v)", p, s)
	}
	if got := Advance(p, s, now); !same(got, advanced) {
		t.Fatalf("Advance(%v, %v, %d): %v, not %v", p, s, now, got, advanced)
	}
	if got := Room(p, s, now); got < 0 || !exactRoom(p, advanced, got) || exactRoom(p, advanced, got+1) {
		t.Fatalf("Room(%v, %v, %d): %d", p, s, now, got)
	}
	if got, want := Until(p, s, now), exactUntil(p, advanced); got != want {
		t.Fatalf("Until(%v, %v, %d): %d, not %d", p, s, now, got, want)
	}
	for _, cost := range costs {
		want, fits := exactRetry(p, advanced, cost)
		if got, ok := Retry(p, s, now, cost); got != want || ok != fits {
			t.Fatalf("Retry(%v, %v, %d, %d): %d, %t, not %d, %t", p, s, now, cost, got, ok, want, fits)
		}
		for _, kind := range kinds {
			a := api.Act{Kind: kind, Now: now, Cost: cost}
			want, done := exactDo(p, s, advanced, a)
			got, ok := Do(p, s, a)
			if !same(got, want) || ok != done {
				t.Fatalf("Do(%v, %v, %v): %v, %t, not %v, %t", p, s, a, got, ok, want, done)
			}
			if !Right(p, got) {
				t.Fatalf("Do(%v, %v, %v): %v is not Right", p, s, a, got)
			}
		}
	}
}

// scattered draws numbers of at most so many bits, of all lengths, the same in every run.
func scattered() func(bits int) int {
	x := uint64(88172645463325252)
	return func(bits int) int {
		x ^= x << 13
		x ^= x >> 7
		x ^= x << 17
		return int(x>>1) >> 8 & (1<<bits - 1) >> (x % uint64(bits))
	}
}

// everywhere goes over policies and states that may be and that may not, at the edges and scattered.
func everywhere(call func(p api.Policy, s api.State, now int, kinds, costs []int)) {
	kinds := []int{least, -1, 0, api.Take, api.Hold, api.Release, api.Commit, 5, most}
	for _, p := range append(allPolicies(), wrongPolicies()...) {
		for _, s := range append(rightStates(p), wrongStates()...) {
			for _, now := range []int{least, -1, 0, s.At - 1, s.At + 1, s.At + 1000, api.MaxTime, api.MaxTime + 1, most} {
				costs := []int{least, -1, 0, 1, s.Held, s.Held + 1, p.Burst - s.Held, p.Burst, p.Burst + 1, 1 << 40, 1 << 61, most}
				if r := Room(p, s, now); r != 0 {
					costs = append(costs, r, r+1)
				}
				call(p, s, now, kinds, costs)
			}
		}
	}
	draw := scattered()
	for range 100000 {
		p := api.Policy{Kind: api.Gcra, Limit: draw(21), Period: draw(41), Burst: draw(21), Open: draw(1) == 1}
		s := api.State{At: draw(54), Level: draw(62), Held: draw(21)}
		if draw(3) > 0 && p.Burst > 0 {
			s.Held %= p.Burst + 1
			s.Level = s.Held*p.Period + s.Level%((p.Burst-s.Held)*p.Period+1)
		}
		call(p, s, draw(55)-draw(30), []int{draw(3)}, []int{draw(21) - draw(3)})
	}
}

// TestAnyInput is P1: each call ends without a panic and tells what the document says, whatever it is given.
func TestAnyInput(t *testing.T) {
	right := 0
	everywhere(func(p api.Policy, s api.State, now int, kinds, costs []int) {
		if exactRight(p, s) {
			right++
		}
		checkAll(t, p, s, now, kinds, costs)
	})
	if right < 10000 {
		t.Fatal("too little was Right to tell:", right)
	}
}

// twin is the bucket of the same numbers, in which what is not owed is there.
func twin(p api.Policy, s api.State) (api.Policy, api.State) {
	p.Kind = api.Bucket
	s.Level = p.Burst*p.Period - s.Level
	return p, s
}

// TestBucketLetsTheSame holds each answer for what may be against that of the bucket of the same numbers.
func TestBucketLetsTheSame(t *testing.T) {
	alike := func(p api.Policy, s, b api.State) bool {
		_, s = twin(p, s)
		return same(s, b)
	}
	everywhere(func(p api.Policy, s api.State, now int, kinds, costs []int) {
		if !Right(p, s) {
			return
		}
		bp, b := twin(p, s)
		if bucket.Check(bp) != Check(p) || !bucket.Right(bp, b) || !alike(p, New(p, now), bucket.New(bp, now)) {
			t.Fatalf("%v, %v, %v, %v", p, bp, s, b)
		}
		if got, want := Advance(p, s, now), bucket.Advance(bp, b, now); !alike(p, got, want) {
			t.Fatalf("Advance(%v, %v, %d): %v, of a bucket %v", p, s, now, got, want)
		}
		if got, want := Room(p, s, now), bucket.Room(bp, b, now); got != want {
			t.Fatalf("Room(%v, %v, %d): %d, of a bucket %d", p, s, now, got, want)
		}
		if got, want := Until(p, s, now), bucket.Until(bp, b, now); got != want {
			t.Fatalf("Until(%v, %v, %d): %d, of a bucket %d", p, s, now, got, want)
		}
		for _, cost := range costs {
			want, fits := bucket.Retry(bp, b, now, cost)
			if got, ok := Retry(p, s, now, cost); got != want || ok != fits {
				t.Fatalf("Retry(%v, %v, %d, %d): %d, %t, of a bucket %d, %t", p, s, now, cost, got, ok, want, fits)
			}
			for _, kind := range kinds {
				a := api.Act{Kind: kind, Now: now, Cost: cost}
				want, done := bucket.Do(bp, b, a)
				if got, ok := Do(p, s, a); !alike(p, got, want) || ok != done {
					t.Fatalf("Do(%v, %v, %v): %v, %t, of a bucket %v, %t", p, s, a, got, ok, want, done)
				}
			}
		}
	})
}

// arrival is some cost that came for good (or, below 0, one that went again), at a time of the state.
type arrival struct{ at, cost int }

// A walk is what arrived of some acts by a clock that leaps: once counted when it is for good, once when it is let in.
type walk struct {
	p    api.Policy
	s    api.State
	good []arrival
	in   []arrival
}

func (w *walk) act(a api.Act) bool {
	s, ok := Do(w.p, w.s, a)
	w.s = s
	if !ok {
		return false
	}
	if a.Kind == api.Take || a.Kind == api.Commit {
		w.good = append(w.good, arrival{s.At, a.Cost})
	}
	if a.Kind == api.Take || a.Kind == api.Hold {
		w.in = append(w.in, arrival{s.At, a.Cost})
	}
	if a.Kind == api.Release {
		w.in = append(w.in, arrival{s.At, -a.Cost})
	}
	return true
}

// beyond is by how many parts, in the time till at for which that is the most, what arrived, and more beside, is above the burst and what was paid off in that time.
func (w *walk) beyond(l []arrival, more, at int) int {
	n := (more - w.p.Burst) * w.p.Period
	since := more
	for i := len(l) - 1; i >= 0; i-- {
		since += l[i].cost
		n = max(n, (since-w.p.Burst)*w.p.Period-w.p.Limit*(at-l[i].at))
	}
	return n
}

// walks goes many ways with small numbers, where each grant is near to what is too much, and calls step ahead of each act.
func walks(step func(w *walk, a api.Act)) {
	draw := scattered()
	for range 400 {
		w := &walk{p: api.Policy{Kind: api.Gcra, Limit: 1 + draw(3), Period: 1 + draw(5), Burst: 1 + draw(4)}}
		clock := draw(10)
		w.s = New(w.p, clock)
		for range 60 {
			clock += draw(4)
			now := clock
			if draw(3) == 0 {
				now -= draw(12)
			}
			a := api.Act{Kind: 1 + draw(2), Now: now, Cost: 1 + draw(3)}
			step(w, a)
			w.act(a)
		}
	}
}

// TestEnvelopes is P2: in no time does more arrive, or is held beside it, than may be early, and what is paid off in that time.
func TestEnvelopes(t *testing.T) {
	granted := 0
	walks(func(w *walk, a api.Act) {
		if n := w.beyond(w.good, w.s.Held, w.s.At); n > 0 {
			t.Fatalf("%v: %d parts too many for good: %v, %v", w.p, n, w.good, w.s)
		}
		if n := w.beyond(w.in, 0, w.s.At); n > 0 {
			t.Fatalf("%v: %d parts too many let in: %v, %v", w.p, n, w.in, w.s)
		}
		if _, ok := Do(w.p, w.s, a); ok {
			granted++
		}
	})
	if granted < 1000 {
		t.Fatal("too little was granted to tell:", granted)
	}
}

// TestNotAllIsDenied is P3: what is denied, with what arrived since some time and what is held, would be too much for that time.
func TestNotAllIsDenied(t *testing.T) {
	denied := 0
	walks(func(w *walk, a api.Act) {
		if a.Kind != api.Take && a.Kind != api.Hold {
			return
		}
		if _, ok := Do(w.p, w.s, a); ok {
			return
		}
		denied++
		if n := w.beyond(w.good, w.s.Held+a.Cost, max(w.s.At, a.Now)); n <= 0 {
			t.Fatalf("%v: %v denied, with %d parts left: %v, %v", w.p, a, -n, w.good, w.s)
		}
	})
	if denied < 1000 {
		t.Fatal("too little was denied to tell:", denied)
	}
}

// TestRetries is P4: what is denied is granted when Retry tells, at no time before, and never, if it tells that.
func TestRetries(t *testing.T) {
	later := 0
	walks(func(w *walk, a api.Act) {
		from := max(w.s.At, a.Now)
		for cost := -1; cost <= w.p.Burst+2; cost++ {
			granted := func(kind, after int) bool {
				_, ok := Do(w.p, w.s, api.Act{Kind: kind, Now: from + after, Cost: cost})
				return ok
			}
			n, ok := Retry(w.p, w.s, a.Now, cost)
			if n > 0 {
				later++
			}
			for _, kind := range []int{api.Take, api.Hold} {
				for i := range n {
					if granted(kind, i) {
						t.Fatalf("%v, %v at %d: %d is granted after %d, ahead of %d", w.p, w.s, a.Now, cost, i, n)
					}
				}
				if granted(kind, n) != ok || granted(kind, api.MaxTime) != ok {
					t.Fatalf("%v, %v at %d: %d after %d: not %t", w.p, w.s, a.Now, cost, n, ok)
				}
			}
		}
	})
	if later < 1000 {
		t.Fatal("too little was to be tried again to tell:", later)
	}
}

// TestFresh: a state is as new after Until, and at no time before.
func TestFresh(t *testing.T) {
	walks(func(w *walk, a api.Act) {
		from := max(w.s.At, a.Now)
		n := Until(w.p, w.s, a.Now)
		if w.s.Held > 0 {
			if n != -1 || same(Advance(w.p, w.s, most), New(w.p, most)) {
				t.Fatalf("%v, %v: %d, though some is held", w.p, w.s, n)
			}
			return
		}
		for i := range n + 1 {
			if fresh := same(Advance(w.p, w.s, from+i), New(w.p, from+i)); fresh != (i == n) {
				t.Fatalf("%v, %v at %d: as new after %d is %t, Until %d", w.p, w.s, a.Now, i, fresh, n)
			}
		}
	})
}

// pay is a state one nanosecond later, part by part.
func pay(p api.Policy, s api.State) api.State {
	for range p.Limit {
		if s.Level > s.Held*p.Period {
			s.Level--
		}
	}
	s.At++
	return s
}

// TestPartByPart holds the answers against debts that are paid off one part after the other, all small ones that there are.
func TestPartByPart(t *testing.T) {
	const at = 3
	for n := range 4 * 4 * 4 {
		p := api.Policy{Kind: api.Gcra, Limit: 1 + n%4, Period: 1 + n/4%4, Burst: 1 + n/16}
		all := p.Burst * p.Period
		for held := range p.Burst + 1 {
			for level := held * p.Period; level <= all; level++ {
				first := api.State{At: at, Level: level, Held: held}
				paid := -1
				room := make([]int, p.Burst+1)
				for s := first; s.At < at+all+2; s = pay(p, s) {
					if got := Advance(p, first, s.At); !same(got, s) {
						t.Fatalf("Advance(%v, %v, %d): %v, not %v", p, first, s.At, got, s)
					}
					if paid < 0 && s.Level == 0 {
						paid = s.At - at
					}
					for cost := range room {
						if cost*p.Period+s.Level > all {
							room[cost] = s.At + 1 - at
						}
					}
				}
				if got := Until(p, first, 0); got != paid {
					t.Fatalf("Until(%v, %v): %d, not %d", p, first, got, paid)
				}
				for cost := 1; cost <= p.Burst-held; cost++ {
					if got, ok := Retry(p, first, 0, cost); got != room[cost] || !ok {
						t.Fatalf("Retry(%v, %v, %d): %d, %t, not %d", p, first, cost, got, ok, room[cost])
					}
				}
			}
		}
	}
}

// FuzzGcra looks for inputs that the edges miss: go test -fuzz=FuzzGcra ./gcra.
func FuzzGcra(f *testing.F) {
	f.Add(2, 10, 1000, 5, 0, 0, 5000, 0, 7, 1, 5)
	f.Add(2, 1<<20, 1<<40, 1<<20, 0, 1<<53, 1<<60, 0, most, 2, 1<<20)
	f.Add(2, 1<<20, 1, 1, 0, 0, 1, 1, most, 3, 1)
	f.Add(2, 1, 1<<40, 1<<20, 0, 0, 0, 0, least, 4, least)
	f.Fuzz(func(t *testing.T, kind, limit, period, burst, caps, at, level, held, now, act, cost int) {
		p := api.Policy{Kind: kind, Limit: limit, Period: period, Burst: burst, Cap: caps}
		checkAll(t, p, api.State{At: at, Level: level, Held: held}, now, []int{act}, []int{cost})
	})
}

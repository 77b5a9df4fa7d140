package counter

import (
	"math/big"
	"testing"

	"tapster/api"
)

// The exact answers are the document's words, in numbers without an end.

func number(n int) *big.Int { return big.NewInt(int64(n)) }

func between(n, from, till int) bool { return n >= from && n <= till }

func exactCheck(p api.Policy) bool {
	return p.Kind == 4 && between(p.Limit, 1, 1<<20) && between(p.Period, 1, 1<<40) && p.Burst == 0 && p.Cap == 0
}

func exactClamp(n int) int {
	if n < 0 {
		return 0
	}
	if n > 1<<53 {
		return 1 << 53
	}
	return n
}

func exactRight(p api.Policy, s api.State) bool {
	together := new(big.Int).Add(number(s.Held), number(s.Level))
	return exactCheck(p) && between(s.At, 0, 1<<53) && s.Held >= 0 && s.Level >= 0 && together.Cmp(number(p.Limit)) <= 0 && len(s.Log) == 0
}

// exactBegin is the greatest multiple of Period that is at most t: where t's time begins.
func exactBegin(p api.Policy, t int) int {
	return t - int(new(big.Int).Mod(number(t), number(p.Period)).Int64())
}

// exactAdvance is asked of Right states alone, as are the others below.
func exactAdvance(p api.Policy, s api.State, now int) api.State {
	at := s.At
	if n := exactClamp(now); n > at {
		at = n
	}
	if exactBegin(p, at) > s.At {
		return api.State{At: at, Held: s.Held}
	}
	return api.State{At: at, Level: s.Level, Held: s.Held}
}

func exactRoom(p api.Policy, advanced api.State) int {
	return p.Limit - (advanced.Level + advanced.Held)
}

func exactDo(p api.Policy, s, advanced api.State, a api.Act) (api.State, bool) {
	enough := a.Cost <= exactRoom(p, advanced)
	if a.Kind == api.Release || a.Kind == api.Commit {
		enough = a.Cost <= advanced.Held
	}
	if a.Cost < 1 || a.Kind < 1 || a.Kind > 4 || !enough {
		return api.State{At: s.At, Level: s.Level, Held: s.Held}, false
	}
	levels := [5]int{0, 1, 0, 0, 1}
	holds := [5]int{0, 0, 1, -1, -1}
	return api.State{At: advanced.At, Level: advanced.Level + levels[a.Kind]*a.Cost, Held: advanced.Held + holds[a.Kind]*a.Cost}, true
}

// exactNext is how long it lasts from at on till another time begins.
func exactNext(p api.Policy, at int) int {
	return exactBegin(p, at) + p.Period - at
}

func exactUntil(p api.Policy, advanced api.State) int {
	if advanced.Held > 0 {
		return -1
	}
	if advanced.Level == 0 {
		return 0
	}
	return exactNext(p, advanced.At)
}

func exactRetry(p api.Policy, advanced api.State, cost int) (int, bool) {
	if cost < 1 || cost > p.Limit-advanced.Held {
		return 0, false
	}
	if cost <= exactRoom(p, advanced) {
		return 0, true
	}
	return exactNext(p, advanced.At), true
}

// checkAll holds every call against the exact answers.
func checkAll(t *testing.T, p api.Policy, s api.State, now int, kinds, costs []int) {
	t.Helper()
	fresh, errno := api.State{}, api.ErrArg
	if exactCheck(p) {
		fresh, errno = api.State{At: exactClamp(now)}, api.OK
	}
	if got := Check(p); got != errno {
		t.Fatalf("Check(%v): %d", p, got)
	}
	if got := New(p, now); !same(got, fresh) {
		t.Fatalf("New(%v, %d): %v", p, now, got)
	}
	if exactRight(p, s) {
		checkRight(t, p, s, now, kinds, costs)
		return
	}
	for _, kind := range kinds {
		for _, cost := range costs {
			checkNoughts(t, p, s, now, kind, cost)
		}
	}
}

func checkRight(t *testing.T, p api.Policy, s api.State, now int, kinds, costs []int) {
	t.Helper()
	advanced := exactAdvance(p, s, now)
	if !Right(p, s) {
		t.Fatalf("not Right(%v, %v)", p, s)
	}
	if got := Advance(p, s, now); !same(got, advanced) {
		t.Fatalf("Advance(%v, %v, %d): %v, not %v", p, s, now, got, advanced)
	}
	if got, want := Room(p, s, now), exactRoom(p, advanced); got != want {
		t.Fatalf("Room(%v, %v, %d): %d, not %d", p, s, now, got, want)
	}
	if got, want := Until(p, s, now), exactUntil(p, advanced); got != want {
		t.Fatalf("Until(%v, %v, %d): %d, not %d", p, s, now, got, want)
	}
	for _, cost := range costs {
		want, fits := exactRetry(p, advanced, cost)
		if got, ok := Retry(p, s, now, cost); got != want || ok != fits {
			t.Fatalf("Retry(%v, %v, %d, %d): %d, %t, not %d, %t", p, s, now, cost, got, ok, want, fits)
		}
		for _, kind := range kinds {
			a := api.Act{Kind: kind, Now: now, Cost: cost}
			want, done := exactDo(p, s, advanced, a)
			got, ok := Do(p, s, a)
			if !same(got, want) || ok != done {
				t.Fatalf("Do(%v, %v, %v): %v, %t, not %v, %t", p, s, a, got, ok, want, done)
			}
			if !Right(p, got) {
				t.Fatalf("Do(%v, %v, %v): %v is not Right", p, s, a, got)
			}
		}
	}
}

// scattered draws numbers of at most so many bits, of all lengths, the same in every run.
func scattered() func(bits int) int {
	x := uint64(88172645463325252)
	return func(bits int) int {
		x ^= x << 13
		x ^= x >> 7
		x ^= x << 17
		return int(x>>1) >> 8 & (1<<bits - 1) >> (x % uint64(bits))
	}
}

// everywhere goes over policies and states that may be and that may not, at the edges and scattered.
func everywhere(call func(p api.Policy, s api.State, now int, kinds, costs []int)) {
	kinds := []int{least, -1, 0, api.Take, api.Hold, api.Release, api.Commit, 5, most}
	for _, p := range append(allPolicies(), wrongPolicies()...) {
		for _, s := range append(rightStates(p), wrongStates()...) {
			next := s.At - s.At%max(p.Period, 1) + p.Period
			for _, now := range []int{least, -1, 0, s.At - 1, s.At, s.At + 1, next - 1, next, next + 1, next + p.Period, api.MaxTime, api.MaxTime + 1, most} {
				costs := []int{least, -1, 0, 1, s.Held, s.Held + 1, p.Limit - s.Held, p.Limit - s.Held + 1, p.Limit, p.Limit + 1, most}
				if r := Room(p, s, now); r != 0 {
					costs = append(costs, r, r+1)
				}
				call(p, s, now, kinds, costs)
			}
		}
	}
	draw := scattered()
	for range 100000 {
		p := api.Policy{Kind: api.Count, Limit: draw(21), Period: draw(41), Open: draw(1) == 1}
		s := api.State{At: draw(54), Level: draw(21), Held: draw(21)}
		if draw(3) > 0 {
			s.Held %= p.Limit + 1
			s.Level %= p.Limit - s.Held + 1
		}
		now := draw(55) - draw(30)
		if draw(2) > 0 {
			now = s.At + draw(42) - draw(30)
		}
		call(p, s, now, []int{draw(3)}, []int{draw(21) - draw(3)})
	}
}

// TestAnyInput is P1: each call ends without a panic and tells what the document says, whatever it is given.
func TestAnyInput(t *testing.T) {
	right := 0
	everywhere(func(p api.Policy, s api.State, now int, kinds, costs []int) {
		if exactRight(p, s) {
			right++
		}
		checkAll(t, p, s, now, kinds, costs)
	})
	if right < 10000 {
		t.Fatal("too little was Right to tell:", right)
	}
}

// grant is some cost that was taken, or committed, at a time of the state.
type grant struct{ at, cost int }

// A walk is what was granted of some acts by a clock that leaps.
type walk struct {
	p      api.Policy
	s      api.State
	grants []grant
}

func (w *walk) act(a api.Act) bool {
	s, ok := Do(w.p, w.s, a)
	w.s = s
	if ok && (a.Kind == api.Take || a.Kind == api.Commit) {
		w.grants = append(w.grants, grant{s.At, a.Cost})
	}
	return ok
}

// from is what was granted from a time on till another, and at both.
func (w *walk) from(begin, till int) int {
	n := 0
	for _, g := range w.grants {
		if between(g.at, begin, till) {
			n += g.cost
		}
	}
	return n
}

// in is what was granted in the time that t is in.
func (w *walk) in(t int) int {
	begin := t - t%w.p.Period
	return w.from(begin, begin+w.p.Period-1)
}

// walks goes many ways with small numbers, where each grant is near to what is too much, and calls step ahead of each act.
func walks(step func(w *walk, a api.Act)) {
	draw := scattered()
	for range 600 {
		p := api.Policy{Kind: api.Count, Limit: 1 + draw(4), Period: 1 + draw(5)}
		clock := draw(10)
		w := &walk{p: p, s: New(p, clock)}
		for range 60 {
			clock += draw(4)
			now := clock
			if draw(3) == 0 {
				now -= draw(12)
			}
			a := api.Act{Kind: 1 + draw(2), Now: now, Cost: 1 + draw(3)}
			step(w, a)
			w.act(a)
		}
	}
}

// TestEnvelopes is P2: in no time is more taken, and held beside it, than there may be; in less than a period never more than twice that, which comes to be.
func TestEnvelopes(t *testing.T) {
	granted, twice := 0, 0
	walks(func(w *walk, a api.Act) {
		if n := w.in(w.s.At) + w.s.Held; n > w.p.Limit {
			t.Fatalf("%v: %d in a time: %v, %v", w.p, n, w.grants, w.s)
		}
		n := w.from(w.s.At-w.p.Period+1, w.s.At)
		if n > 2*w.p.Limit {
			t.Fatalf("%v: %d in less than a period: %v, %v", w.p, n, w.grants, w.s)
		}
		if n == 2*w.p.Limit {
			twice++
		}
		if _, ok := Do(w.p, w.s, a); ok {
			granted++
		}
	})
	if granted < 10000 || twice == 0 {
		t.Fatal("too little was granted to tell:", granted, twice)
	}
}

// TestNotAllIsDenied is P3: what is denied would be too much, with what was taken in its time and what is held.
func TestNotAllIsDenied(t *testing.T) {
	denied := 0
	walks(func(w *walk, a api.Act) {
		if a.Kind != api.Take && a.Kind != api.Hold {
			return
		}
		if _, ok := Do(w.p, w.s, a); ok {
			return
		}
		denied++
		if n := w.in(max(w.s.At, a.Now)) + w.s.Held + a.Cost; n <= w.p.Limit {
			t.Fatalf("%v: %v denied, which would make %d: %v, %v", w.p, a, n, w.grants, w.s)
		}
	})
	if denied < 5000 {
		t.Fatal("too little was denied to tell:", denied)
	}
}

// TestWhatIsCounted: at each act just what was granted in its time is counted.
func TestWhatIsCounted(t *testing.T) {
	others := 0
	walks(func(w *walk, a api.Act) {
		n := w.in(max(w.s.At, a.Now))
		if n != w.s.Level {
			others++
		}
		if got := Advance(w.p, w.s, a.Now).Level; got != n {
			t.Fatalf("%v: %d at %d, not %d: %v, %v", w.p, got, a.Now, n, w.grants, w.s)
		}
	})
	if others < 5000 {
		t.Fatal("too few times began to tell:", others)
	}
}

// TestRetries is P4: what is denied is granted when Retry tells, at no time before, and never, if it tells that.
func TestRetries(t *testing.T) {
	later := 0
	walks(func(w *walk, a api.Act) {
		from := max(w.s.At, a.Now)
		for cost := -1; cost <= w.p.Limit+2; cost++ {
			granted := func(kind, after int) bool {
				_, ok := Do(w.p, w.s, api.Act{Kind: kind, Now: from + after, Cost: cost})
				return ok
			}
			n, ok := Retry(w.p, w.s, a.Now, cost)
			if n > 0 {
				later++
			}
			for _, kind := range []int{api.Take, api.Hold} {
				for i := range n {
					if granted(kind, i) {
						t.Fatalf("%v, %v at %d: %d is granted after %d, ahead of %d", w.p, w.s, a.Now, cost, i, n)
					}
				}
				if granted(kind, n) != ok || granted(kind, api.MaxTime) != ok {
					t.Fatalf("%v, %v at %d: %d after %d: not %t", w.p, w.s, a.Now, cost, n, ok)
				}
			}
		}
	})
	if later < 10000 {
		t.Fatal("too little was to be tried again to tell:", later)
	}
}

// TestFresh: a state is as new after Until, and at no time before.
func TestFresh(t *testing.T) {
	walks(func(w *walk, a api.Act) {
		from := max(w.s.At, a.Now)
		n := Until(w.p, w.s, a.Now)
		if w.s.Held > 0 {
			if n != -1 || same(Advance(w.p, w.s, most), New(w.p, most)) {
				t.Fatalf("%v, %v: %d, though some is held", w.p, w.s, n)
			}
			return
		}
		for i := range n + 1 {
			if fresh := same(Advance(w.p, w.s, from+i), New(w.p, from+i)); fresh != (i == n) {
				t.Fatalf("%v, %v at %d: as new after %d is %t, Until %d", w.p, w.s, a.Now, i, fresh, n)
			}
		}
	})
}

// tick is a state one nanosecond later: what was counted is none any more at each multiple of Period.
func tick(p api.Policy, s api.State) api.State {
	s.At++
	if s.At%p.Period == 0 {
		s.Level = 0
	}
	return s
}

// TestTickByTick holds the answers against counters that go on one nanosecond after the other, all small ones that there are.
func TestTickByTick(t *testing.T) {
	for n := range 4 * 5 * 12 {
		p := api.Policy{Kind: api.Count, Limit: 1 + n%4, Period: 1 + n/4%5}
		at := n / 20
		for held := range p.Limit + 1 {
			for level := range p.Limit - held + 1 {
				first := api.State{At: at, Level: level, Held: held}
				free := -1
				room := make([]int, p.Limit-held+1)
				for s := first; s.At < at+2*p.Period; s = tick(p, s) {
					if got := Advance(p, first, s.At); !same(got, s) {
						t.Fatalf("Advance(%v, %v, %d): %v, not %v", p, first, s.At, got, s)
					}
					if free < 0 && s.Level == 0 && held == 0 {
						free = s.At - at
					}
					for cost := range room {
						if cost+s.Level+held > p.Limit {
							room[cost] = s.At + 1 - at
						}
					}
				}
				if got := Until(p, first, 0); got != free {
					t.Fatalf("Until(%v, %v): %d, not %d", p, first, got, free)
				}
				for cost := 1; cost < len(room); cost++ {
					if got, ok := Retry(p, first, 0, cost); got != room[cost] || !ok {
						t.Fatalf("Retry(%v, %v, %d): %d, %t, not %d", p, first, cost, got, ok, room[cost])
					}
				}
			}
		}
	}
}

// FuzzCounter looks for inputs that the edges miss: go test -fuzz=FuzzCounter ./counter.
func FuzzCounter(f *testing.F) {
	f.Add(4, 10, 100, 0, 0, 99, 4, 3, 100, 1, 7)
	f.Add(4, 1<<20, 1<<40, 0, 0, 1<<53, 1<<20, 0, most, 2, 1<<20)
	f.Add(4, 1, 1, 0, 0, 5, 0, 1, 6, 3, 1)
	f.Add(4, 1<<20, 1, 0, 0, 5, most, most, least, 4, least)
	f.Fuzz(func(t *testing.T, kind, limit, period, burst, caps, at, level, held, now, act, cost int) {
		p := api.Policy{Kind: kind, Limit: limit, Period: period, Burst: burst, Cap: caps}
		checkAll(t, p, api.State{At: at, Level: level, Held: held}, now, []int{act}, []int{cost})
	})
}

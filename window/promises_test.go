package window

import (
	"math/big"
	"slices"
	"testing"

	"tapster/api"
)

// The exact answers are the document's words, in numbers without an end, and with no use of the order of the entries.

func number(n int) *big.Int { return big.NewInt(int64(n)) }

func between(n, from, till int) bool { return n >= from && n <= till }

func exactCheck(p api.Policy) bool {
	return p.Kind == 3 && between(p.Limit, 1, 1<<20) && between(p.Period, 1, 1<<40) && between(p.Cap, 1, 100) && p.Burst == 0
}

func exactClamp(n int) int {
	if n < 0 {
		return 0
	}
	if n > 1<<53 {
		return 1 << 53
	}
	return n
}

func exactRight(p api.Policy, s api.State) bool {
	if !exactCheck(p) || !between(s.At, 0, 1<<53) || !between(s.Held, 0, p.Limit) || s.Level != 0 || len(s.Log) > p.Cap {
		return false
	}
	together := number(s.Held)
	for i, e := range s.Log {
		if !between(e.T, 0, s.At) || !between(e.Cost, 1, p.Limit) || i > 0 && e.T < s.Log[i-1].T {
			return false
		}
		together.Add(together, number(e.Cost))
	}
	return together.Cmp(number(p.Limit)) <= 0
}

// exactLog are the entries that are not gone at a time, which may be beyond the clock's end.
func exactLog(p api.Policy, l []api.Entry, at int) []api.Entry {
	var rest []api.Entry
	for _, e := range l {
		if e.T > at-p.Period {
			rest = append(rest, e)
		}
	}
	return rest
}

// exactAdvance is asked of Right states alone, as are the others below.
func exactAdvance(p api.Policy, s api.State, now int) api.State {
	at := s.At
	if n := exactClamp(now); n > at {
		at = n
	}
	return api.State{At: at, Held: s.Held, Log: exactLog(p, s.Log, at)}
}

// exactRoom is Room some time after that of a state.
func exactRoom(p api.Policy, advanced api.State, after int) int {
	n := p.Limit - advanced.Held
	for _, e := range exactLog(p, advanced.Log, advanced.At+after) {
		n -= e.Cost
	}
	return n
}

func exactLogged(p api.Policy, s api.State, cost int) []api.Entry {
	if len(s.Log) == 0 {
		return []api.Entry{{T: s.At, Cost: cost}}
	}
	head, last := s.Log[:len(s.Log)-1], s.Log[len(s.Log)-1]
	if last.T == s.At || len(s.Log) == p.Cap {
		return append(slices.Clone(head), api.Entry{T: s.At, Cost: last.Cost + cost})
	}
	return append(slices.Clone(s.Log), api.Entry{T: s.At, Cost: cost})
}

func exactDo(p api.Policy, s, advanced api.State, a api.Act) (api.State, bool) {
	enough := a.Cost <= exactRoom(p, advanced, 0)
	if a.Kind == api.Release || a.Kind == api.Commit {
		enough = a.Cost <= advanced.Held
	}
	if a.Cost < 1 || a.Kind < 1 || a.Kind > 4 || !enough {
		return s, false
	}
	holds := [5]int{0, 0, 1, -1, -1}
	u := api.State{At: advanced.At, Held: advanced.Held + holds[a.Kind]*a.Cost, Log: advanced.Log}
	if a.Kind == api.Take || a.Kind == api.Commit {
		u.Log = exactLogged(p, advanced, a.Cost)
	}
	return u, true
}

// exactWait is the least time after which holds, of now and all times at which something goes.
func exactWait(p api.Policy, advanced api.State, holds func(after int) bool) int {
	times := []int{0}
	for _, e := range advanced.Log {
		times = append(times, e.T+p.Period-advanced.At)
	}
	slices.Sort(times)
	return times[slices.IndexFunc(times, holds)]
}

func exactUntil(p api.Policy, advanced api.State) int {
	if advanced.Held > 0 {
		return -1
	}
	return exactWait(p, advanced, func(after int) bool { return len(exactLog(p, advanced.Log, advanced.At+after)) == 0 })
}

func exactRetry(p api.Policy, advanced api.State, cost int) (int, bool) {
	if cost < 1 || cost > p.Limit-advanced.Held {
		return 0, false
	}
	return exactWait(p, advanced, func(after int) bool { return exactRoom(p, advanced, after) >= cost }), true
}

// checkAll holds every call against the exact answers, and the Log against what it was.
func checkAll(t *testing.T, p api.Policy, s api.State, now int, kinds, costs []int) {
	t.Helper()
	before := slices.Clone(s.Log[:cap(s.Log)])
	fresh, errno := api.State{}, api.ErrArg
	if exactCheck(p) {
		fresh, errno = api.State{At: exactClamp(now)}, api.OK
	}
	if got := Check(p); got != errno {
		t.Fatalf("Check(%v): %d", p, got)
	}
	if got := New(p, now); !same(got, fresh) {
		t.Fatalf("New(%v, %d): %v", p, now, got)
	}
	if exactRight(p, s) {
		checkRight(t, p, s, now, kinds, costs)
	} else {
		for _, kind := range kinds {
			for _, cost := range costs {
				checkNoughts(t, p, s, now, kind, cost)
			}
		}
	}
	if !slices.Equal(s.Log[:cap(s.Log)], before) {
		t.Fatalf("%v, %v at %d: the Log was changed from %v", p, s, now, before)
	}
}

func checkRight(t *testing.T, p api.Policy, s api.State, now int, kinds, costs []int) {
	t.Helper()
	advanced := exactAdvance(p, s, now)
	if !Right(p, s) {
		t.Fatalf("not Right(%v, %v)", p, s)
	}
	if got := Advance(p, s, now); !same(got, advanced) {
		t.Fatalf("Advance(%v, %v, %d): %v, not %v", p, s, now, got, advanced)
	}
	if got, want := Room(p, s, now), exactRoom(p, advanced, 0); got != want {
		t.Fatalf("Room(%v, %v, %d): %d, not %d", p, s, now, got, want)
	}
	if got, want := Until(p, s, now), exactUntil(p, advanced); got != want {
		t.Fatalf("Until(%v, %v, %d): %d, not %d", p, s, now, got, want)
	}
	for _, cost := range costs {
		want, fits := exactRetry(p, advanced, cost)
		if got, ok := Retry(p, s, now, cost); got != want || ok != fits {
			t.Fatalf("Retry(%v, %v, %d, %d): %d, %t, not %d, %t", p, s, now, cost, got, ok, want, fits)
		}
		for _, kind := range kinds {
			a := api.Act{Kind: kind, Now: now, Cost: cost}
			want, done := exactDo(p, s, advanced, a)
			got, ok := Do(p, s, a)
			if !same(got, want) || ok != done {
				t.Fatalf("Do(%v, %v, %v): %v, %t, not %v, %t", p, s, a, got, ok, want, done)
			}
			if !Right(p, got) {
				t.Fatalf("Do(%v, %v, %v): %v is not Right", p, s, a, got)
			}
		}
	}
}

// scattered draws numbers of at most so many bits, of all lengths, the same in every run.
func scattered() func(bits int) int {
	x := uint64(88172645463325252)
	return func(bits int) int {
		x ^= x << 13
		x ^= x >> 7
		x ^= x << 17
		return int(x>>1) >> 8 & (1<<bits - 1) >> (x % uint64(bits))
	}
}

// scatteredState is near to Right, mostly: entries of late times and of costs that together come near to the Limit.
func scatteredState(p api.Policy, draw func(bits int) int) api.State {
	s := api.State{At: draw(54), Held: draw(21)}
	if draw(3) > 0 {
		s.Held %= max(p.Limit, 1)
	}
	left := p.Limit - s.Held
	for range draw(4) {
		cost := draw(21)
		if draw(5) > 0 {
			cost = 1 + cost%max(left, 1)
		}
		left -= cost
		ago := draw(41)
		if draw(4) > 0 {
			ago %= p.Period + 2
		}
		s.Log = append(s.Log, api.Entry{T: s.At - ago, Cost: cost})
	}
	if draw(5) > 0 {
		slices.SortFunc(s.Log, func(a, b api.Entry) int { return a.T - b.T })
	}
	return s
}

// everywhere goes over policies and states that may be and that may not, at the edges and scattered.
func everywhere(call func(p api.Policy, s api.State, now int, kinds, costs []int)) {
	kinds := []int{least, -1, 0, api.Take, api.Hold, api.Release, api.Commit, 5, most}
	for _, p := range allPolicies() {
		for _, s := range append(rightStates(p), wrongStates()...) {
			for _, now := range []int{least, 0, s.At - 1, s.At + 1, s.At + p.Period - 1, s.At + p.Period, api.MaxTime + 1, most} {
				costs := []int{least, -1, 0, 1, s.Held, s.Held + 1, p.Limit - s.Held, p.Limit, p.Limit + 1, most}
				if r := Room(p, s, now); r != 0 {
					costs = append(costs, r, r+1)
				}
				call(p, s, now, kinds, costs)
			}
		}
	}
	for _, p := range wrongPolicies() {
		for _, s := range append(rightStates(small()), wrongStates()...) {
			call(p, s, s.At+1, kinds, []int{0, 1, most})
		}
	}
	draw := scattered()
	for range 200000 {
		p := api.Policy{Kind: api.Log, Limit: draw(21), Period: draw(41), Cap: 1 + draw(6), Open: draw(1) == 1}
		s := scatteredState(p, draw)
		call(p, s, s.At+draw(41)%(p.Period+2)-draw(20), []int{draw(3)}, []int{draw(21) - draw(3), Room(p, s, s.At)})
	}
}

// TestAnyInput is P1: each call ends without a panic and tells what the document says, whatever it is given.
func TestAnyInput(t *testing.T) {
	right, forgot := 0, 0
	everywhere(func(p api.Policy, s api.State, now int, kinds, costs []int) {
		if exactRight(p, s) {
			right++
			if n := len(exactAdvance(p, s, now).Log); n > 0 && n < len(s.Log) {
				forgot++
			}
		}
		checkAll(t, p, s, now, kinds, costs)
	})
	if right < 50000 || forgot < 4000 {
		t.Fatal("too little was Right, or was forgotten in part, to tell:", right, forgot)
	}
}

// TestFullLogs are logs of all lengths up to the greatest Cap, and of one entry more.
func TestFullLogs(t *testing.T) {
	kinds, costs := []int{api.Take, api.Hold, api.Release, api.Commit}, []int{1, 2, api.MaxLimit - 200}
	p := api.Policy{Kind: api.Log, Limit: api.MaxLimit, Period: 300, Cap: api.MaxLog}
	for count := range api.MaxLog + 2 {
		s := api.State{At: 1000, Held: 100, Log: row(count, 1000-3*count, 3, 1)}
		if Right(p, s) != (count <= api.MaxLog) {
			t.Fatal(count, "entries are Right:", Right(p, s))
		}
		for now := 998; now < 1305; now++ {
			checkAll(t, p, s, now, kinds, costs)
		}
	}
}

// memory is what a log remembers, unit by unit: no Costs, no order, but the time of each unit that is taken.
type memory struct {
	p     api.Policy
	at    int
	held  int
	units []int
}

func (m *memory) advance(now int) {
	m.at = max(m.at, now)
	m.units = slices.DeleteFunc(m.units, func(t int) bool { return m.at-t >= m.p.Period })
}

func (m *memory) tooMuch(cost int) bool {
	return len(m.units)+m.held+cost > m.p.Limit
}

// take has the units of the latest time taken for ones of this, if there are as many times as may be.
func (m *memory) take(cost int) {
	times := map[int]bool{}
	for _, t := range m.units {
		times[t] = true
	}
	if len(times) == m.p.Cap {
		latest := slices.Max(m.units)
		for i, t := range m.units {
			if t == latest {
				m.units[i] = m.at
			}
		}
	}
	for range cost {
		m.units = append(m.units, m.at)
	}
}

// A walk is what was granted, at which time of the state, of some acts by a clock that leaps; beside it what is remembered.
type walk struct {
	p     api.Policy
	s     api.State
	m     memory
	at    []int
	taken []int
}

// act tells whether a was done, and does with what is remembered what was done.
func (w *walk) act(a api.Act) bool {
	s, ok := Do(w.p, w.s, a)
	w.s = s
	if !ok {
		return false
	}
	w.m.advance(a.Now)
	if a.Kind == api.Hold {
		w.m.held += a.Cost
	}
	if a.Kind == api.Release || a.Kind == api.Commit {
		w.m.held -= a.Cost
	}
	if a.Kind == api.Take || a.Kind == api.Commit {
		w.m.take(a.Cost)
		w.at = append(w.at, s.At)
		w.taken = append(w.taken, a.Cost)
	}
	return true
}

// since is what was taken in less than a period before a time, and at that time.
func (w *walk) since(at int) int {
	n := 0
	for i, cost := range w.taken {
		if at-w.at[i] < w.p.Period {
			n += cost
		}
	}
	return n
}

// walks goes many ways with small numbers, where each grant is near to what is too much, and calls step ahead of each act.
func walks(step func(w *walk, a api.Act)) {
	draw := scattered()
	for range 600 {
		p := api.Policy{Kind: api.Log, Limit: 1 + draw(4), Period: 1 + draw(5), Cap: 1 + draw(3)}
		clock := draw(10)
		w := &walk{p: p, s: New(p, clock), m: memory{p: p, at: clock}}
		for range 60 {
			clock += draw(4)
			now := clock
			if draw(3) == 0 {
				now -= draw(12)
			}
			a := api.Act{Kind: 1 + draw(2), Now: now, Cost: 1 + draw(3)}
			step(w, a)
			w.act(a)
		}
	}
}

// TestEnvelopes is P2: in less than a period there is never more taken, and at its end held beside it, than there may be.
func TestEnvelopes(t *testing.T) {
	granted := 0
	walks(func(w *walk, a api.Act) {
		if n := w.since(w.s.At) + w.s.Held; n > w.p.Limit {
			t.Fatalf("%v: %d in a period: %v, %v, %v", w.p, n, w.at, w.taken, w.s)
		}
		if _, ok := Do(w.p, w.s, a); ok {
			granted++
		}
	})
	if granted < 10000 {
		t.Fatal("too little was granted to tell:", granted)
	}
}

// TestNotAllIsDenied is P3: what is denied would be too much, with the units that are remembered and what is held; with a Cap that is never met, with all that was taken in less than a period.
func TestNotAllIsDenied(t *testing.T) {
	denied, remembered := 0, 0
	walks(func(w *walk, a api.Act) {
		if a.Kind != api.Take && a.Kind != api.Hold {
			return
		}
		if _, ok := Do(w.p, w.s, a); ok {
			return
		}
		denied++
		m := w.m
		m.units = slices.Clone(m.units)
		m.advance(a.Now)
		if !m.tooMuch(a.Cost) {
			t.Fatalf("%v: %v denied, with %v and %d held: %v", w.p, a, m.units, m.held, w.s)
		}
		if w.p.Cap >= w.p.Limit {
			remembered++
			if n := w.since(m.at) + w.s.Held + a.Cost; n <= w.p.Limit {
				t.Fatalf("%v: %v denied, which would make %d: %v, %v, %v", w.p, a, n, w.at, w.taken, w.s)
			}
		}
	})
	if denied < 5000 || remembered < 1000 {
		t.Fatal("too little was denied to tell:", denied, remembered)
	}
}

// TestUnitByUnit holds each state of a walk against the units that are remembered, each of its own.
func TestUnitByUnit(t *testing.T) {
	merged := 0
	walks(func(w *walk, a api.Act) {
		var units []int
		for _, e := range Advance(w.p, w.s, a.Now).Log {
			for range e.Cost {
				units = append(units, e.T)
			}
		}
		m := w.m
		m.units = slices.Clone(m.units)
		m.advance(a.Now)
		slices.Sort(m.units)
		if !slices.Equal(units, m.units) || w.s.Held != m.held || Room(w.p, w.s, a.Now) != w.p.Limit-m.held-len(m.units) {
			t.Fatalf("%v: %v at %d, not of %v with %d held", w.p, w.s, a.Now, m.units, m.held)
		}
		if len(w.s.Log) == w.p.Cap {
			merged++
		}
	})
	if merged < 1000 {
		t.Fatal("too few logs were full to tell:", merged)
	}
}

// TestRetries is P4: what is denied is granted when Retry tells, at no time before, and never, if it tells that.
func TestRetries(t *testing.T) {
	later := 0
	walks(func(w *walk, a api.Act) {
		from := max(w.s.At, a.Now)
		for cost := -1; cost <= w.p.Limit+2; cost++ {
			granted := func(kind, after int) bool {
				_, ok := Do(w.p, w.s, api.Act{Kind: kind, Now: from + after, Cost: cost})
				return ok
			}
			n, ok := Retry(w.p, w.s, a.Now, cost)
			if n > 0 {
				later++
			}
			for _, kind := range []int{api.Take, api.Hold} {
				for i := range n {
					if granted(kind, i) {
						t.Fatalf("%v, %v at %d: %d is granted after %d, ahead of %d", w.p, w.s, a.Now, cost, i, n)
					}
				}
				if granted(kind, n) != ok || granted(kind, api.MaxTime) != ok {
					t.Fatalf("%v, %v at %d: %d after %d: not %t", w.p, w.s, a.Now, cost, n, ok)
				}
			}
		}
	})
	if later < 10000 {
		t.Fatal("too little was to be tried again to tell:", later)
	}
}

// TestFresh: a state is as new after Until, and at no time before.
func TestFresh(t *testing.T) {
	walks(func(w *walk, a api.Act) {
		from := max(w.s.At, a.Now)
		n := Until(w.p, w.s, a.Now)
		if w.s.Held > 0 {
			if n != -1 || same(Advance(w.p, w.s, most), New(w.p, most)) {
				t.Fatalf("%v, %v: %d, though some is held", w.p, w.s, n)
			}
			return
		}
		for i := range n + 1 {
			if fresh := same(Advance(w.p, w.s, from+i), New(w.p, from+i)); fresh != (i == n) {
				t.Fatalf("%v, %v at %d: as new after %d is %t, Until %d", w.p, w.s, a.Now, i, fresh, n)
			}
		}
	})
}

// FuzzWindow looks for inputs that the edges miss: go test -fuzz=FuzzWindow ./window.
func FuzzWindow(f *testing.F) {
	f.Add(3, 10, 100, 0, 3, 9, 0, 2, 3, 5, 1, 2, 2, 10, 1, 4)
	f.Add(3, 1<<20, 1<<40, 0, 100, 1<<53, 0, 0, 2, 0, 1<<19, 1<<53, 1<<19, most, 2, 1)
	f.Add(3, 1, 1, 0, 1, 5, 0, 1, 1, 5, 1, 0, 0, least, 4, 1)
	f.Add(3, 5, 1, 1, 1, 5, 1, 0, 101, most, most, most, most, least, 5, most)
	f.Fuzz(func(t *testing.T, kind, limit, period, burst, caps, at, level, held, count, first, cost, step, more, now, act, asked int) {
		p := api.Policy{Kind: kind, Limit: limit, Period: period, Burst: burst, Cap: caps}
		s := api.State{At: at, Level: level, Held: held}
		for i := range count & 127 {
			s.Log = append(s.Log, api.Entry{T: first + i*step, Cost: cost + i*more})
		}
		checkAll(t, p, s, now, []int{act}, []int{asked})
	})
}

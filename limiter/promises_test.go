package limiter

import (
	"slices"
	"testing"

	"tapster/api"
)

// scattered draws numbers of at most so many bits, of all lengths, the same in every run.
func scattered() func(bits int) int {
	x := uint64(88172645463325252)
	return func(bits int) int {
		x ^= x << 13
		x ^= x >> 7
		x ^= x << 17
		return int(x>>1) >> 8 & (1<<bits - 1) >> (x % uint64(bits))
	}
}

// checkAll holds every call against that of the Kind's own package, or against the noughts, if there is none.
func checkAll(t *testing.T, p api.Policy, s api.State, now int, kinds, costs []int) {
	t.Helper()
	c, known := own[p.Kind]
	if !known {
		for _, kind := range kinds {
			for _, cost := range costs {
				checkStrange(t, p, s, now, api.Act{Kind: kind, Now: now, Cost: cost})
			}
		}
		return
	}
	if got, want := Check(p), c.check(p); got != want {
		t.Fatalf("Check(%v): %d, not %d", p, got, want)
	}
	if got, want := New(p, now), c.begin(p, now); !same(got, want) {
		t.Fatalf("New(%v, %d): %v, not %v", p, now, got, want)
	}
	if got, want := Right(p, s), c.right(p, s); got != want {
		t.Fatalf("Right(%v, %v): %t, not %t", p, s, got, want)
	}
	if got, want := Advance(p, s, now), c.advance(p, s, now); !same(got, want) {
		t.Fatalf("Advance(%v, %v, %d): %v, not %v", p, s, now, got, want)
	}
	if got, want := Room(p, s, now), c.room(p, s, now); got != want {
		t.Fatalf("Room(%v, %v, %d): %d, not %d", p, s, now, got, want)
	}
	until := c.until(p, s, now)
	if got := Until(p, s, now); got != until {
		t.Fatalf("Until(%v, %v, %d): %d, not %d", p, s, now, got, until)
	}
	if got := Fresh(p, s, now); got != (until == 0) {
		t.Fatalf("Fresh(%v, %v, %d): %t, Until %d", p, s, now, got, until)
	}
	if got, want := Most(p), c.room(p, c.begin(p, now), now); got != want {
		t.Fatalf("Most(%v): %d, but a new one has room for %d", p, got, want)
	}
	checkActs(t, c, p, s, now, kinds, costs)
}

// checkActs holds what is told of each act, and of all of them one behind the other.
func checkActs(t *testing.T, c calls, p api.Policy, s api.State, now int, kinds, costs []int) {
	t.Helper()
	var acts []api.Act
	var told []bool
	last := s
	for _, cost := range costs {
		want, fits := c.retry(p, s, now, cost)
		if got, ok := Retry(p, s, now, cost); got != want || ok != fits {
			t.Fatalf("Retry(%v, %v, %d, %d): %d, %t, not %d, %t", p, s, now, cost, got, ok, want, fits)
		}
		for _, kind := range kinds {
			a := api.Act{Kind: kind, Now: now, Cost: cost}
			want, done := c.do(p, s, a)
			if got, ok := Do(p, s, a); !same(got, want) || ok != done {
				t.Fatalf("Do(%v, %v, %v): %v, %t, not %v, %t", p, s, a, got, ok, want, done)
			}
			if got, l := Run(p, s, a); !same(got, want) || !slices.Equal(l, []bool{done}) {
				t.Fatalf("Run(%v, %v, %v): %v, %v, not %v, %t", p, s, a, got, l, want, done)
			}
			last, done = c.do(p, last, a)
			acts, told = append(acts, a), append(told, done)
		}
	}
	if got, l := Run(p, s, acts...); !same(got, last) || !slices.Equal(l, told) {
		t.Fatalf("Run(%v, %v, %v): %v, %v, not %v, %v", p, s, acts, got, l, last, told)
	}
}

// drawn is a policy of that Kind, of numbers of at most so many bits; such as may be, mostly.
func drawn(kind, bits int, draw func(bits int) int) api.Policy {
	p := api.Policy{Kind: kind, Limit: 1 + draw(bits), Period: 1 + draw(2*bits), Open: draw(1) == 1}
	switch kind {
	case api.Bucket, api.Gcra:
		p.Burst = 1 + draw(bits)
	case api.Log:
		p.Cap = 1 + draw(6)
	}
	return p
}

// grown is a state by p of some acts at times from at on, the last one at most a few Periods later.
func grown(p api.Policy, at int, draw func(bits int) int) api.State {
	s := New(p, at)
	for range draw(4) {
		at += draw(41) % (p.Period + 1)
		a := api.Act{Kind: 1 + draw(2), Now: at, Cost: 1 + draw(21)%(Room(p, s, at)+1)}
		if a.Kind >= api.Release && s.Held > 0 {
			a.Cost = 1 + draw(21)%s.Held
		}
		s, _ = Do(p, s, a)
	}
	return s
}

// scratched is s with one field of it another one, at times.
func scratched(s api.State, draw func(bits int) int) api.State {
	switch draw(5) {
	case 1:
		s.At += draw(54) - draw(54)
	case 2:
		s.Level += draw(61) - draw(61)
	case 3:
		s.Held += draw(21) - draw(21)
	case 4:
		s.Log = append(s.Log, api.Entry{T: s.At + draw(3) - 2, Cost: draw(21) - 1})
	}
	return s
}

// everywhere goes over policies of all Kinds, and none, and over states that may be and that may not, at the edges and scattered.
func everywhere(call func(p api.Policy, s api.State, now int, kinds, costs []int)) {
	kinds := []int{least, -1, 0, api.Take, api.Hold, api.Release, api.Commit, 5, most}
	costs := []int{least, 0, 1, 9, 10, 11, api.MaxLimit, most}
	for _, p := range allPolicies() {
		for _, s := range allStates() {
			for _, now := range []int{least, -1, 0, s.At - 1, s.At + 1, s.At + 100, api.MaxTime, api.MaxTime + 1, most} {
				call(p, s, now, kinds, costs)
			}
		}
	}
	for _, p := range slices.Concat(wrongPolicies(), strangePolicies()) {
		for _, s := range allStates() {
			call(p, s, s.At+1, kinds, []int{0, 1, most})
		}
	}
	draw := scattered()
	for i := range 60000 {
		p := drawn(1+i%4, 20, draw)
		if draw(5) == 3 {
			p.Kind = draw(63) - draw(63)
		}
		s := scratched(grown(p, draw(54), draw), draw)
		now := s.At + draw(42)%(p.Period+2) - draw(20)
		if draw(4) == 3 {
			now = draw(63) - draw(63)
		}
		call(p, s, now, []int{1 + draw(2), draw(3)}, []int{draw(21) - draw(3), Room(p, s, now), s.Held})
	}
}

// TestAnyInput is P1: each call ends without a panic and tells what the Kind's own package tells, whatever it is given.
func TestAnyInput(t *testing.T) {
	var right [5]int
	strange := 0
	everywhere(func(p api.Policy, s api.State, now int, kinds, costs []int) {
		if c, known := own[p.Kind]; !known {
			strange++
		} else if c.right(p, s) {
			right[p.Kind]++
		}
		checkAll(t, p, s, now, kinds, costs)
	})
	if strange < 5000 || slices.Min(right[1:]) < 10000 {
		t.Fatal("too little was Right, or of no Kind, to tell:", right, strange)
	}
}

// TestManyActs is Run of so many acts that what it tells is long.
func TestManyActs(t *testing.T) {
	draw := scattered()
	for _, p := range slices.Concat(small(), []api.Policy{{}}) {
		l := make([]api.Act, 100000)
		for i := range l {
			l[i] = api.Act{Kind: draw(3), Now: i/3 - draw(5), Cost: draw(3)}
		}
		want := make([]bool, len(l))
		last := New(p, 0)
		for i, a := range l {
			last, want[i] = Do(p, last, a)
		}
		got, told := Run(p, New(p, 0), l...)
		if !same(got, last) || !slices.Equal(told, want) || slices.Contains(told, true) != (p.Kind != 0) {
			t.Fatalf("%v: %v, not %v", p, got, last)
		}
	}
}

// grant is some cost that was taken, or committed, at a time of the state.
type grant struct{ at, cost int }

// A walk is what was granted of some acts by a clock that leaps.
type walk struct {
	p      api.Policy
	s      api.State
	held   int
	grants []grant
}

func (w *walk) act(a api.Act) bool {
	s, ok := Do(w.p, w.s, a)
	w.s = s
	if !ok {
		return false
	}
	switch a.Kind {
	case api.Hold:
		w.held += a.Cost
	case api.Release, api.Commit:
		w.held -= a.Cost
	}
	if a.Kind == api.Take || a.Kind == api.Commit {
		w.grants = append(w.grants, grant{s.At, a.Cost})
	}
	return true
}

// since is what was granted from a time on.
func (w *walk) since(begin int) int {
	n := 0
	for _, g := range w.grants {
		if g.at >= begin {
			n += g.cost
		}
	}
	return n
}

// allows is whether the policy says that there may be cost more at a time, beside what is held: by what was granted alone, not by any state.
func (w *walk) allows(cost, at int) bool {
	cost += w.held
	switch w.p.Kind {
	case api.Log:
		return w.since(at-w.p.Period+1)+cost <= w.p.Limit
	case api.Count:
		return w.since(at-at%w.p.Period)+cost <= w.p.Limit
	}
	// In no time more than what there may be at once, and what came in that time.
	for _, g := range w.grants {
		if (w.since(g.at)+cost-w.p.Burst)*w.p.Period > w.p.Limit*(at-g.at) {
			return false
		}
	}
	return cost <= w.p.Burst
}

// walks goes many ways by each Kind, with small numbers, where each grant is near to what is too much, and calls step ahead of each act.
func walks(step func(w *walk, a api.Act)) {
	draw := scattered()
	for i := range 1600 {
		p := drawn(1+i%4, 3, draw)
		clock := draw(10)
		w := &walk{p: p, s: New(p, clock)}
		for range 50 {
			clock += draw(4)
			now := clock
			if draw(3) == 0 {
				now -= draw(12)
			}
			a := api.Act{Kind: 1 + draw(2), Now: now, Cost: 1 + draw(3)}
			step(w, a)
			w.act(a)
		}
	}
}

// asks is whether a is for some cost that is not granted yet.
func asks(a api.Act) bool { return a.Kind == api.Take || a.Kind == api.Hold }

// TestEnvelopes is P2: nothing is granted that the policy does not say there may be, whatever the clock tells.
func TestEnvelopes(t *testing.T) {
	var granted [5]int
	walks(func(w *walk, a api.Act) {
		if !w.allows(0, w.s.At) || w.held != w.s.Held {
			t.Fatalf("%v: too much: %v, %d held, %v", w.p, w.grants, w.held, w.s)
		}
		if _, ok := Do(w.p, w.s, a); ok && asks(a) {
			granted[w.p.Kind]++
			if !w.allows(a.Cost, max(w.s.At, a.Now)) {
				t.Fatalf("%v: %v granted, which is too much: %v, %v", w.p, a, w.grants, w.s)
			}
		}
	})
	if slices.Min(granted[1:]) < 2000 {
		t.Fatal("too little was granted to tell:", granted)
	}
}

// TestNotAllIsDenied is P3: what is denied would be too much. A log whose Cap is met remembers some costs too long; these are left out.
func TestNotAllIsDenied(t *testing.T) {
	var denied [5]int
	walks(func(w *walk, a api.Act) {
		if !asks(a) || w.p.Kind == api.Log && w.p.Cap < w.p.Limit {
			return
		}
		if _, ok := Do(w.p, w.s, a); ok {
			return
		}
		denied[w.p.Kind]++
		if w.allows(a.Cost, max(w.s.At, a.Now)) {
			t.Fatalf("%v: %v denied, which is not too much: %v, %v", w.p, a, w.grants, w.s)
		}
	})
	if slices.Min(denied[1:]) < 1000 {
		t.Fatal("too little was denied to tell:", denied)
	}
}

// TestMostIsGranted: no walk has ever room for more than Most, and a new one has room for that.
func TestMostIsGranted(t *testing.T) {
	walks(func(w *walk, a api.Act) {
		if got := Room(w.p, w.s, a.Now); got > Most(w.p) {
			t.Fatalf("%v: Room %d at %d, Most %d: %v", w.p, got, a.Now, Most(w.p), w.s)
		}
		for _, x := range []struct {
			cost int
			want bool
		}{{Most(w.p), true}, {Most(w.p) + 1, false}} {
			if _, ok := Do(w.p, New(w.p, a.Now), take(a.Now, x.cost)); ok != x.want {
				t.Fatalf("%v: Most %d, Take of %d: %t", w.p, Most(w.p), x.cost, ok)
			}
			if _, ok := Retry(w.p, New(w.p, a.Now), a.Now, x.cost); ok != x.want {
				t.Fatalf("%v: Most %d, Retry of %d: %t", w.p, Most(w.p), x.cost, ok)
			}
		}
	})
}

// TestRetries is P4: what is denied is granted when Retry tells, at no time before, and never, if it tells that.
func TestRetries(t *testing.T) {
	var later [5]int
	walks(func(w *walk, a api.Act) {
		from := max(w.s.At, a.Now)
		for cost := -1; cost <= Most(w.p)+2; cost++ {
			granted := func(kind, after int) bool {
				_, ok := Do(w.p, w.s, api.Act{Kind: kind, Now: from + after, Cost: cost})
				return ok
			}
			n, ok := Retry(w.p, w.s, a.Now, cost)
			if n > 0 {
				later[w.p.Kind]++
			}
			for _, kind := range []int{api.Take, api.Hold} {
				for i := range n {
					if granted(kind, i) {
						t.Fatalf("%v, %v at %d: %d is granted after %d, ahead of %d", w.p, w.s, a.Now, cost, i, n)
					}
				}
				if granted(kind, n) != ok || granted(kind, api.MaxTime) != ok {
					t.Fatalf("%v, %v at %d: %d after %d: not %t", w.p, w.s, a.Now, cost, n, ok)
				}
			}
		}
	})
	if slices.Min(later[1:]) < 5000 {
		t.Fatal("too little was to be tried again to tell:", later)
	}
}

// TestRoomStays: what has room some time later has it then, and at all times behind it.
func TestRoomStays(t *testing.T) {
	var more [5]int
	walks(func(w *walk, a api.Act) {
		from := max(w.s.At, a.Now)
		room := Room(w.p, w.s, from)
		for after := range 2*w.p.Period + 2 {
			then := Room(w.p, w.s, from+after)
			if then < room {
				t.Fatalf("%v, %v: Room %d after %d, %d ahead of it", w.p, w.s, then, after, room)
			}
			for cost := room + 1; cost <= then; cost++ {
				more[w.p.Kind]++
				if n, ok := Retry(w.p, w.s, from, cost); n != after || !ok {
					t.Fatalf("%v, %v at %d: Retry %d, %t of %d, which has room after %d", w.p, w.s, from, n, ok, cost, after)
				}
			}
			room = then
		}
	})
	if slices.Min(more[1:]) < 5000 {
		t.Fatal("too little came to have room to tell:", more)
	}
}

// TestFreshIsNew: fresh is a state that is as new, from Until on, and at no time before.
func TestFreshIsNew(t *testing.T) {
	var later [5]int
	walks(func(w *walk, a api.Act) {
		from := max(w.s.At, a.Now)
		n := Until(w.p, w.s, a.Now)
		if n > 0 {
			later[w.p.Kind]++
		}
		for after := range max(n, 0) + 2 {
			want := n >= 0 && after >= n
			if same(Advance(w.p, w.s, from+after), New(w.p, from+after)) != want || Fresh(w.p, w.s, from+after) != want {
				t.Fatalf("%v, %v at %d: Fresh after %d is %t, Until %d", w.p, w.s, a.Now, after, !want, n)
			}
		}
		if Fresh(w.p, w.s, most) != (w.s.Held == 0) {
			t.Fatalf("%v, %v: Fresh at the end of time is %t", w.p, w.s, w.s.Held > 0)
		}
	})
	if slices.Min(later[1:]) < 2000 {
		t.Fatal("too little was not as new to tell:", later)
	}
}

// TestRunOfWalks: Run of all acts of a walk tells what Do of each told.
func TestRunOfWalks(t *testing.T) {
	draw := scattered()
	for i := range 2000 {
		p := drawn(1+i%4, 4, draw)
		first := New(p, draw(6))
		last := first
		var acts []api.Act
		var told []bool
		for range draw(6) {
			a := api.Act{Kind: draw(3), Now: first.At + 5*len(acts) - draw(6), Cost: draw(4)}
			s, ok := Do(p, last, a)
			last = s
			acts, told = append(acts, a), append(told, ok)
		}
		if got, l := Run(p, first, acts...); !same(got, last) || !slices.Equal(l, told) {
			t.Fatalf("Run(%v, %v, %v): %v, %v, not %v, %v", p, first, acts, got, l, last, told)
		}
	}
}

// FuzzLimiter looks for inputs that the edges miss: go test -fuzz=FuzzLimiter ./limiter.
func FuzzLimiter(f *testing.F) {
	f.Add(1, 10, 1000, 5, 0, 0, 5000, 0, 0, 0, 0, 7, 1, 5)
	f.Add(2, 10, 1000, 5, 0, 0, 0, 0, 0, 0, 0, most, 2, 6)
	f.Add(3, 10, 100, 0, 3, 9, 0, 2, 2, 5, 1, 10, 4, 1)
	f.Add(4, 1<<20, 1<<40, 0, 0, 1<<53, 1<<19, 1<<19, 0, 0, 0, least, 3, 1<<19)
	f.Add(5, 10, 1000, 5, 0, 0, 5000, 0, 0, 0, 0, 7, 1, 5)
	f.Fuzz(func(t *testing.T, kind, limit, period, burst, caps, at, level, held, count, first, cost, now, act, asked int) {
		p := api.Policy{Kind: kind, Limit: limit, Period: period, Burst: burst, Cap: caps}
		s := api.State{At: at, Level: level, Held: held}
		for i := range count & 127 {
			s.Log = append(s.Log, api.Entry{T: first + i, Cost: cost})
		}
		checkAll(t, p, s, now, []int{act, api.Take}, []int{asked, 1})
	})
}

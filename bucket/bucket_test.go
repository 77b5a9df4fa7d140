package bucket

import (
	"math/big"
	"reflect"
	"testing"

	"tapster/api"
)

const (
	most  = 1<<63 - 1
	least = -1 << 63
)

// small is the policy of the document's example.
func small() api.Policy {
	return api.Policy{Kind: api.Bucket, Limit: 10, Period: 1000, Burst: 5}
}

// widest has the greatest bucket, steepest the most drops for the least one, slowest the longest wait, tiniest the least of all.
func widest() api.Policy {
	return api.Policy{Kind: api.Bucket, Limit: api.MaxLimit, Period: api.MaxPeriod, Burst: api.MaxLimit}
}

func steepest() api.Policy {
	return api.Policy{Kind: api.Bucket, Limit: api.MaxLimit, Period: 1, Burst: 1}
}

func slowest() api.Policy {
	return api.Policy{Kind: api.Bucket, Limit: 1, Period: api.MaxPeriod, Burst: api.MaxLimit}
}

func tiniest() api.Policy {
	return api.Policy{Kind: api.Bucket, Limit: 1, Period: 1, Burst: 1}
}

func allPolicies() []api.Policy {
	return []api.Policy{small(), widest(), steepest(), slowest(), tiniest()}
}

// wrongPolicies differ from one that may be in one field each.
func wrongPolicies() []api.Policy {
	l := []api.Policy{{}}
	change := func(by func(*api.Policy)) {
		p := small()
		by(&p)
		l = append(l, p)
	}
	for _, n := range []int{least, -1, 0, api.Gcra, api.Log, api.Count, 5, most} {
		change(func(p *api.Policy) { p.Kind = n })
	}
	for _, n := range []int{least, -1, 0, api.MaxLimit + 1, most} {
		change(func(p *api.Policy) { p.Limit = n })
		change(func(p *api.Policy) { p.Burst = n })
	}
	for _, n := range []int{least, -1, 0, api.MaxPeriod + 1, most} {
		change(func(p *api.Policy) { p.Period = n })
	}
	for _, n := range []int{least, -1, 1, 5, most} {
		change(func(p *api.Policy) { p.Cap = n })
	}
	return l
}

// wrongStates are not Right by small, each for one reason.
func wrongStates() []api.State {
	return []api.State{
		{At: -1},
		{At: least},
		{At: api.MaxTime + 1},
		{At: most},
		{Held: -1},
		{Held: -1, Level: 5500},
		{Held: least},
		{Held: 6},
		{Held: 6, Level: -1000},
		{Held: most},
		{Level: -1},
		{Level: least},
		{Level: 5001},
		{Level: most},
		{Held: 1, Level: 4001},
		{Held: 5, Level: 1},
		{Level: 1000, Log: []api.Entry{{}}},
		{Level: 1000, Log: []api.Entry{{T: 1, Cost: 1}, {T: 2, Cost: 2}}},
	}
}

// rightStates are at the edges of what p lets be.
func rightStates(p api.Policy) []api.State {
	var l []api.State
	for _, held := range []int{0, 1, p.Burst / 2, p.Burst - 1, p.Burst} {
		full := (p.Burst - held) * p.Period
		for _, level := range []int{0, 1, p.Period - 1, p.Period, full / 2, full - p.Limit, full - 1, full} {
			if held < 0 || level < 0 || level > full {
				continue
			}
			for _, at := range []int{0, 1000, api.MaxTime - 1, api.MaxTime} {
				l = append(l, api.State{At: at, Level: level, Held: held})
			}
		}
	}
	return l
}

func same(a, b api.State) bool {
	return a.At == b.At && a.Level == b.Level && a.Held == b.Held && len(a.Log) == 0 && len(b.Log) == 0
}

// The exact answers are the document's words, in numbers without an end.

func number(n int) *big.Int { return big.NewInt(int64(n)) }

func times(a, b int) *big.Int { return new(big.Int).Mul(number(a), number(b)) }

func between(n int, from int, till *big.Int) bool {
	return n >= from && number(n).Cmp(till) <= 0
}

func exactCheck(p api.Policy) bool {
	return p.Kind == 1 && between(p.Limit, 1, number(1<<20)) && between(p.Burst, 1, number(1<<20)) && between(p.Period, 1, number(1<<40)) && p.Cap == 0
}

func exactClamp(n int) int {
	if n < 0 {
		return 0
	}
	if n > 1<<53 {
		return 1 << 53
	}
	return n
}

func exactRight(p api.Policy, s api.State) bool {
	return exactCheck(p) && between(s.At, 0, number(1<<53)) && between(s.Held, 0, number(p.Burst)) && between(s.Level, 0, times(p.Burst-s.Held, p.Period)) && len(s.Log) == 0
}

// exactAdvance is asked of Right states alone, as are the others below.
func exactAdvance(p api.Policy, s api.State, now int) api.State {
	at := s.At
	if n := exactClamp(now); n > at {
		at = n
	}
	level := times(p.Limit, at-s.At)
	level.Add(level, number(s.Level))
	if full := times(p.Burst-s.Held, p.Period); level.Cmp(full) > 0 {
		level = full
	}
	return api.State{At: at, Level: int(level.Int64()), Held: s.Held}
}

func exactDo(p api.Policy, s, advanced api.State, a api.Act) (api.State, bool) {
	drops := times(a.Cost, p.Period)
	enough := drops.Cmp(number(advanced.Level)) <= 0
	if a.Kind == api.Release || a.Kind == api.Commit {
		enough = a.Cost <= advanced.Held
	}
	if a.Cost < 1 || a.Kind < 1 || a.Kind > 4 || !enough {
		return api.State{At: s.At, Level: s.Level, Held: s.Held}, false
	}
	n := advanced
	switch a.Kind {
	case api.Take:
		n.Level -= int(drops.Int64())
	case api.Hold:
		n.Level -= int(drops.Int64())
		n.Held += a.Cost
	case api.Release:
		n.Level += int(drops.Int64())
		n.Held -= a.Cost
	case api.Commit:
		n.Held -= a.Cost
	}
	return n, true
}

// exactWait is the least time, by Limit drops each nanosecond, in which drops more than level are there.
func exactWait(p api.Policy, advanced api.State, drops *big.Int) int {
	drops = new(big.Int).Sub(drops, number(advanced.Level))
	if drops.Sign() <= 0 {
		return 0
	}
	drops.Add(drops, number(p.Limit-1))
	return int(drops.Div(drops, number(p.Limit)).Int64())
}

func exactUntil(p api.Policy, advanced api.State) int {
	if advanced.Held > 0 {
		return -1
	}
	return exactWait(p, advanced, times(p.Burst, p.Period))
}

func exactRetry(p api.Policy, advanced api.State, cost int) (int, bool) {
	if cost < 1 || cost > p.Burst-advanced.Held {
		return 0, false
	}
	return exactWait(p, advanced, times(cost, p.Period)), true
}

// checkNoughts holds what is told of a state that is not Right.
func checkNoughts(t *testing.T, p api.Policy, s api.State, now, kind, cost int) {
	t.Helper()
	if Right(p, s) {
		t.Fatalf("Right(%v, %v)", p, s)
	}
	if got := Advance(p, s, now); !same(got, api.State{}) {
		t.Fatalf("Advance(%v, %v, %d): %v", p, s, now, got)
	}
	if got := Room(p, s, now); got != 0 {
		t.Fatalf("Room(%v, %v, %d): %d", p, s, now, got)
	}
	if got, ok := Do(p, s, api.Act{Kind: kind, Now: now, Cost: cost}); ok || !same(got, api.State{}) {
		t.Fatalf("Do(%v, %v, %d %d %d): %v, %t", p, s, kind, now, cost, got, ok)
	}
	if got := Until(p, s, now); got != -1 {
		t.Fatalf("Until(%v, %v, %d): %d", p, s, now, got)
	}
	if got, ok := Retry(p, s, now, cost); got != 0 || ok {
		t.Fatalf("Retry(%v, %v, %d, %d): %d, %t", p, s, now, cost, got, ok)
	}
}

// checkAll holds every call against the exact answers.
func checkAll(t *testing.T, p api.Policy, s api.State, now int, kinds, costs []int) {
	t.Helper()
	fresh, errno := api.State{}, api.ErrArg
	if exactCheck(p) {
		fresh, errno = api.State{At: exactClamp(now), Level: p.Burst * p.Period}, api.OK
	}
	if got := Check(p); got != errno {
		t.Fatalf("Check(%v): %d", p, got)
	}
	if got := New(p, now); !same(got, fresh) {
		t.Fatalf("New(%v, %d): %v", p, now, got)
	}
	if !exactRight(p, s) {
		for _, kind := range kinds {
			for _, cost := range costs {
				checkNoughts(t, p, s, now, kind, cost)
			}
		}
		return
	}
	advanced := exactAdvance(p, s, now)
	if !Right(p, s) {
		t.Fatalf("not Right(%v, %v)", p, s)
	}
	if got := Advance(p, s, now); !same(got, advanced) {
		t.Fatalf("Advance(%v, %v, %d): %v, not %v", p, s, now, got, advanced)
	}
	if got, want := Room(p, s, now), advanced.Level/p.Period; got != want {
		t.Fatalf("Room(%v, %v, %d): %d, not %d", p, s, now, got, want)
	}
	if got, want := Until(p, s, now), exactUntil(p, advanced); got != want {
		t.Fatalf("Until(%v, %v, %d): %d, not %d", p, s, now, got, want)
	}
	for _, cost := range costs {
		want, fits := exactRetry(p, advanced, cost)
		if got, ok := Retry(p, s, now, cost); got != want || ok != fits {
			t.Fatalf("Retry(%v, %v, %d, %d): %d, %t, not %d, %t", p, s, now, cost, got, ok, want, fits)
		}
		for _, kind := range kinds {
			a := api.Act{Kind: kind, Now: now, Cost: cost}
			want, done := exactDo(p, s, advanced, a)
			got, ok := Do(p, s, a)
			if !same(got, want) || ok != done {
				t.Fatalf("Do(%v, %v, %v): %v, %t, not %v, %t", p, s, a, got, ok, want, done)
			}
			if !Right(p, got) {
				t.Fatalf("Do(%v, %v, %v): %v is not Right", p, s, a, got)
			}
		}
	}
}

func TestExample(t *testing.T) {
	p := small()
	s, ok := Do(p, New(p, 0), api.Act{Kind: api.Take, Cost: 5})
	if !ok || !same(s, api.State{}) {
		t.Fatal(s, ok)
	}
	if u, ok := Do(p, s, api.Act{Kind: api.Take, Cost: 1}); ok || !same(u, s) {
		t.Fatal(u, ok)
	}
	if n, ok := Retry(p, s, 0, 1); n != 100 || !ok {
		t.Fatal(n, ok)
	}
	if u, ok := Do(p, s, api.Act{Kind: api.Take, Now: 99, Cost: 1}); ok || !same(u, s) {
		t.Fatal(u, ok)
	}
	if u, ok := Do(p, s, api.Act{Kind: api.Take, Now: 100, Cost: 1}); !ok || !same(u, api.State{At: 100}) {
		t.Fatal(u, ok)
	}
}

func TestCheck(t *testing.T) {
	for _, p := range allPolicies() {
		for _, p.Open = range []bool{false, true} {
			if got := Check(p); got != api.OK {
				t.Errorf("Check(%v): %d", p, got)
			}
		}
	}
	for _, p := range wrongPolicies() {
		for _, p.Open = range []bool{false, true} {
			if got := Check(p); got != api.ErrArg {
				t.Errorf("Check(%v): %d", p, got)
			}
		}
	}
}

func TestNew(t *testing.T) {
	for _, x := range []struct {
		p         api.Policy
		now       int
		at, level int
	}{
		{small(), 7, 7, 5000},
		{small(), 0, 0, 5000},
		{small(), -1, 0, 5000},
		{small(), least, 0, 5000},
		{small(), api.MaxTime, api.MaxTime, 5000},
		{small(), api.MaxTime + 1, api.MaxTime, 5000},
		{small(), most, api.MaxTime, 5000},
		{widest(), 3, 3, 1 << 60},
		{tiniest(), 3, 3, 1},
	} {
		got := New(x.p, x.now)
		if !same(got, api.State{At: x.at, Level: x.level}) || !Right(x.p, got) {
			t.Errorf("New(%v, %d): %v", x.p, x.now, got)
		}
	}
	for _, p := range wrongPolicies() {
		if got := New(p, 5); !same(got, api.State{}) {
			t.Errorf("New(%v, 5): %v", p, got)
		}
	}
}

func TestRight(t *testing.T) {
	for _, s := range []api.State{{}, {At: api.MaxTime}, {Level: 5000}, {Held: 5}, {Held: 1, Level: 4000}, {Held: 4, Level: 1000}, {Level: 1, Log: []api.Entry{}}} {
		if !Right(small(), s) {
			t.Errorf("not Right of %v", s)
		}
		for _, p := range wrongPolicies() {
			if Right(p, s) {
				t.Errorf("Right(%v, %v)", p, s)
			}
		}
	}
	for _, s := range wrongStates() {
		if Right(small(), s) {
			t.Errorf("Right of %v", s)
		}
	}
	if p := widest(); !Right(p, api.State{Level: 1 << 60}) || Right(p, api.State{Level: 1<<60 + 1}) || !Right(p, api.State{Held: 1 << 20}) || Right(p, api.State{Held: 1<<20 + 1}) || Right(p, api.State{Held: 1 << 40, Level: 1}) {
		t.Error("Right of the widest")
	}
}

func TestAdvance(t *testing.T) {
	for _, x := range []struct {
		name string
		p    api.Policy
		s    api.State
		now  int
		want api.State
	}{
		{"some drop", small(), api.State{At: 5, Level: 7}, 8, api.State{At: 8, Level: 37}},
		{"no time", small(), api.State{At: 5, Level: 7}, 5, api.State{At: 5, Level: 7}},
		{"the clock goes back", small(), api.State{At: 5, Level: 7}, 4, api.State{At: 5, Level: 7}},
		{"now below 0", small(), api.State{At: 5, Level: 7}, -9, api.State{At: 5, Level: 7}},
		{"now the least", small(), api.State{At: 5, Level: 7}, least, api.State{At: 5, Level: 7}},
		{"one short of full", small(), api.State{Level: 4989}, 1, api.State{At: 1, Level: 4999}},
		{"just full", small(), api.State{Level: 4990}, 1, api.State{At: 1, Level: 5000}},
		{"runs over", small(), api.State{Level: 4991}, 1, api.State{At: 1, Level: 5000}},
		{"full already", small(), api.State{Level: 5000}, 9, api.State{At: 9, Level: 5000}},
		{"held has its place", small(), api.State{Level: 2990, Held: 2}, 9, api.State{At: 9, Level: 3000, Held: 2}},
		{"all is held", small(), api.State{Held: 5}, 900, api.State{At: 900, Held: 5}},
		{"now above MaxTime", small(), api.State{Level: 7}, api.MaxTime + 1, api.State{At: api.MaxTime, Level: 5000}},
		{"now the greatest", small(), api.State{At: api.MaxTime - 1, Level: 7}, most, api.State{At: api.MaxTime, Level: 17}},
		{"drops that are no number", steepest(), api.State{}, api.MaxTime, api.State{At: api.MaxTime, Level: 1}},
		{"drops that wrap round to nothing", api.Policy{Kind: api.Bucket, Limit: 1 << 20, Period: 1 << 40, Burst: 1 << 20}, api.State{}, 1 << 44, api.State{At: 1 << 44, Level: 1 << 60}},
		{"a sum that is no number", widest(), api.State{Level: 1<<60 - 1}, 1<<43 - 1, api.State{At: 1<<43 - 1, Level: 1 << 60}},
		{"the widest, one short", widest(), api.State{Level: 1}, 1<<40 - 1, api.State{At: 1<<40 - 1, Level: 1<<60 - 1<<20 + 1}},
		{"the slowest in all of time", slowest(), api.State{}, api.MaxTime, api.State{At: api.MaxTime, Level: api.MaxTime}},
	} {
		if got := Advance(x.p, x.s, x.now); !same(got, x.want) {
			t.Errorf("%s: Advance(%v, %v, %d): %v, not %v", x.name, x.p, x.s, x.now, got, x.want)
		}
	}
}

func TestRoom(t *testing.T) {
	for _, x := range []struct {
		s    api.State
		now  int
		want int
	}{
		{api.State{}, 0, 0},
		{api.State{}, 99, 0},
		{api.State{}, 100, 1},
		{api.State{At: 100}, 99, 0},
		{api.State{At: 100}, least, 0},
		{api.State{At: 100, Level: 1999}, 0, 1},
		{api.State{At: 100, Level: 1999}, 101, 2},
		{api.State{Level: 5000}, 0, 5},
		{api.State{}, most, 5},
		{api.State{Held: 2}, most, 3},
		{api.State{Held: 5}, most, 0},
	} {
		if got := Room(small(), x.s, x.now); got != x.want {
			t.Errorf("Room(%v, %d): %d, not %d", x.s, x.now, got, x.want)
		}
	}
}

func TestDo(t *testing.T) {
	for _, x := range []struct {
		name string
		s    api.State
		a    api.Act
		want api.State
		ok   bool
	}{
		{"Take", api.State{At: 5, Level: 3000}, api.Act{Kind: api.Take, Now: 15, Cost: 2}, api.State{At: 15, Level: 1100}, true},
		{"Take of Room", api.State{At: 5, Level: 2900}, api.Act{Kind: api.Take, Now: 15, Cost: 3}, api.State{At: 15}, true},
		{"Take of one more", api.State{At: 5, Level: 2900}, api.Act{Kind: api.Take, Now: 15, Cost: 4}, api.State{At: 5, Level: 2900}, false},
		{"Take just too early", api.State{At: 5, Level: 2900}, api.Act{Kind: api.Take, Now: 14, Cost: 3}, api.State{At: 5, Level: 2900}, false},
		{"Take when the clock goes back", api.State{At: 5, Level: 2900}, api.Act{Kind: api.Take, Now: -9, Cost: 2}, api.State{At: 5, Level: 900}, true},
		{"Take at the end of time", api.State{At: 5, Level: 2900}, api.Act{Kind: api.Take, Now: most, Cost: 5}, api.State{At: api.MaxTime}, true},
		{"Take beside what is held", api.State{Held: 2, Level: 3000}, api.Act{Kind: api.Take, Cost: 3}, api.State{Held: 2}, true},
		{"Take of what is held", api.State{Held: 2, Level: 3000}, api.Act{Kind: api.Take, Now: 9999, Cost: 4}, api.State{Held: 2, Level: 3000}, false},
		{"Take of 0", api.State{Level: 3000}, api.Act{Kind: api.Take, Now: 9, Cost: 0}, api.State{Level: 3000}, false},
		{"Take of less", api.State{Level: 3000}, api.Act{Kind: api.Take, Now: 9, Cost: -1}, api.State{Level: 3000}, false},
		{"Take of the least", api.State{Level: 3000}, api.Act{Kind: api.Take, Now: 9, Cost: least}, api.State{Level: 3000}, false},
		{"Take of the greatest", api.State{Level: 3000}, api.Act{Kind: api.Take, Now: 9, Cost: most}, api.State{Level: 3000}, false},
		{"Take of a cost that wraps round", api.State{Level: 3000}, api.Act{Kind: api.Take, Now: 9, Cost: 1 << 61}, api.State{Level: 3000}, false},
		{"Hold", api.State{At: 5, Level: 3000, Held: 1}, api.Act{Kind: api.Hold, Now: 15, Cost: 2}, api.State{At: 15, Level: 1100, Held: 3}, true},
		{"Hold of all", api.State{At: 5, Level: 5000}, api.Act{Kind: api.Hold, Now: 15, Cost: 5}, api.State{At: 15, Held: 5}, true},
		{"Hold of one more", api.State{At: 5, Level: 5000}, api.Act{Kind: api.Hold, Now: 15, Cost: 6}, api.State{At: 5, Level: 5000}, false},
		{"Hold just too early", api.State{At: 5, Level: 2900}, api.Act{Kind: api.Hold, Now: 14, Cost: 3}, api.State{At: 5, Level: 2900}, false},
		{"Hold of 0", api.State{Level: 3000}, api.Act{Kind: api.Hold, Now: 9, Cost: 0}, api.State{Level: 3000}, false},
		{"Release", api.State{At: 5, Level: 1000, Held: 3}, api.Act{Kind: api.Release, Now: 15, Cost: 2}, api.State{At: 15, Level: 3100, Held: 1}, true},
		{"Release of all", api.State{At: 5, Held: 5}, api.Act{Kind: api.Release, Now: 15, Cost: 5}, api.State{At: 15, Level: 5000}, true},
		{"Release makes place for no drops that ran over", api.State{Level: 2000, Held: 3}, api.Act{Kind: api.Release, Now: 9999, Cost: 1}, api.State{At: 9999, Level: 3000, Held: 2}, true},
		{"Release of one more", api.State{At: 5, Level: 1000, Held: 3}, api.Act{Kind: api.Release, Now: 15, Cost: 4}, api.State{At: 5, Level: 1000, Held: 3}, false},
		{"Release of nothing held", api.State{At: 5, Level: 1000}, api.Act{Kind: api.Release, Now: 15, Cost: 1}, api.State{At: 5, Level: 1000}, false},
		{"Release of 0", api.State{Held: 3}, api.Act{Kind: api.Release, Now: 15, Cost: 0}, api.State{Held: 3}, false},
		{"Release of less", api.State{Held: 3}, api.Act{Kind: api.Release, Now: 15, Cost: -1}, api.State{Held: 3}, false},
		{"Commit", api.State{At: 5, Level: 1000, Held: 3}, api.Act{Kind: api.Commit, Now: 15, Cost: 2}, api.State{At: 15, Level: 1100, Held: 1}, true},
		{"Commit of all", api.State{At: 5, Held: 5}, api.Act{Kind: api.Commit, Now: 15, Cost: 5}, api.State{At: 15}, true},
		{"Commit of one more", api.State{At: 5, Level: 1000, Held: 3}, api.Act{Kind: api.Commit, Now: 15, Cost: 4}, api.State{At: 5, Level: 1000, Held: 3}, false},
		{"Commit of the greatest", api.State{Held: 3}, api.Act{Kind: api.Commit, Now: 15, Cost: most}, api.State{Held: 3}, false},
		{"Commit of 0", api.State{Held: 3}, api.Act{Kind: api.Commit, Now: 15, Cost: 0}, api.State{Held: 3}, false},
		{"no act", api.State{Level: 3000, Held: 2}, api.Act{Now: 9, Cost: 1}, api.State{Level: 3000, Held: 2}, false},
		{"the fifth", api.State{Level: 3000, Held: 2}, api.Act{Kind: 5, Now: 9, Cost: 1}, api.State{Level: 3000, Held: 2}, false},
		{"below 0", api.State{Level: 3000, Held: 2}, api.Act{Kind: -1, Now: 9, Cost: 1}, api.State{Level: 3000, Held: 2}, false},
	} {
		if got, ok := Do(small(), x.s, x.a); !same(got, x.want) || ok != x.ok {
			t.Errorf("%s: Do(%v, %v): %v, %t, not %v, %t", x.name, x.s, x.a, got, ok, x.want, x.ok)
		}
	}
}

func TestUntil(t *testing.T) {
	for _, x := range []struct {
		p    api.Policy
		s    api.State
		now  int
		want int
	}{
		{small(), api.State{Level: 5000}, 0, 0},
		{small(), api.State{}, 0, 500},
		{small(), api.State{Level: 4999}, 0, 1},
		{small(), api.State{Level: 4990}, 0, 1},
		{small(), api.State{Level: 4989}, 0, 2},
		{small(), api.State{At: 7}, 100, 407},
		{small(), api.State{At: 7}, 0, 500},
		{small(), api.State{At: 7}, 507, 0},
		{small(), api.State{At: 7}, most, 0},
		{small(), api.State{Held: 1, Level: 4000}, 0, -1},
		{small(), api.State{Held: 5}, most, -1},
		{slowest(), api.State{At: api.MaxTime}, 0, 1 << 60},
		{slowest(), api.State{}, most, 1<<60 - 1<<53},
		{widest(), api.State{}, 0, 1 << 40},
	} {
		if got := Until(x.p, x.s, x.now); got != x.want {
			t.Errorf("Until(%v, %v, %d): %d, not %d", x.p, x.s, x.now, got, x.want)
		}
	}
}

func TestRetry(t *testing.T) {
	for _, x := range []struct {
		p         api.Policy
		s         api.State
		now, cost int
		want      int
		ok        bool
	}{
		{small(), api.State{Level: 2000}, 0, 2, 0, true},
		{small(), api.State{Level: 2999}, 0, 1, 0, true},
		{small(), api.State{Level: 2999}, 0, 3, 1, true},
		{small(), api.State{Level: 2990}, 0, 3, 1, true},
		{small(), api.State{Level: 2989}, 0, 3, 2, true},
		{small(), api.State{At: 7}, 0, 5, 500, true},
		{small(), api.State{At: 7}, 100, 5, 407, true},
		{small(), api.State{At: 7}, most, 5, 0, true},
		{small(), api.State{}, 0, 6, 0, false},
		{small(), api.State{Level: 5000}, 0, 6, 0, false},
		{small(), api.State{Level: 5000}, 0, 0, 0, false},
		{small(), api.State{Level: 5000}, 0, -1, 0, false},
		{small(), api.State{}, 0, least, 0, false},
		{small(), api.State{}, 0, most, 0, false},
		{small(), api.State{Held: 2}, 0, 3, 300, true},
		{small(), api.State{Held: 2}, 0, 4, 0, false},
		{small(), api.State{Held: 5}, 0, 1, 0, false},
		{slowest(), api.State{At: api.MaxTime}, 0, api.MaxLimit, 1 << 60, true},
		{slowest(), api.State{At: api.MaxTime}, 0, 1, 1 << 40, true},
	} {
		if got, ok := Retry(x.p, x.s, x.now, x.cost); got != x.want || ok != x.ok {
			t.Errorf("Retry(%v, %v, %d, %d): %d, %t, not %d, %t", x.p, x.s, x.now, x.cost, got, ok, x.want, x.ok)
		}
	}
}

// TestWrong is what is told of policies that may not be and of states that are not Right.
func TestWrong(t *testing.T) {
	for _, s := range wrongStates() {
		checkNoughts(t, small(), s, 9, api.Take, 1)
		checkNoughts(t, small(), s, 9, 5, 0)
	}
	for _, p := range wrongPolicies() {
		for _, s := range append(wrongStates(), rightStates(small())...) {
			checkNoughts(t, p, s, 9, api.Take, 1)
			checkNoughts(t, p, s, most, api.Release, 1)
		}
	}
}

// TestNothingIsKept: neither is an argument changed, nor does its memory come out again.
func TestNothingIsKept(t *testing.T) {
	room := []api.Entry{{T: 1, Cost: 2}, {T: 3, Cost: 4}}
	before := []api.Entry{{T: 1, Cost: 2}, {T: 3, Cost: 4}}
	for _, n := range []int{0, 2} {
		s := api.State{At: 5, Level: 3000, Held: 1, Log: room[:n]}
		out := []api.State{Advance(small(), s, 9)}
		for kind := range 6 {
			for _, cost := range []int{0, 1, 9} {
				u, _ := Do(small(), s, api.Act{Kind: kind, Now: 9, Cost: cost})
				out = append(out, u)
			}
		}
		for _, u := range out {
			if cap(u.Log) != 0 {
				t.Errorf("%v has room that is the caller's", u)
			}
		}
	}
	if !reflect.DeepEqual(room, before) {
		t.Error("changed:", room)
	}
}

// TestAnyInput is P1: each call ends without a panic and tells what the document says, whatever it is given.
func TestAnyInput(t *testing.T) {
	kinds := []int{least, -1, 0, api.Take, api.Hold, api.Release, api.Commit, 5, most}
	policies := append(allPolicies(), wrongPolicies()...)
	for _, p := range policies {
		states := append(rightStates(p), wrongStates()...)
		for _, s := range states {
			for _, now := range []int{least, -1, 0, s.At - 1, s.At + 1, s.At + 1000, api.MaxTime, api.MaxTime + 1, most} {
				costs := []int{least, -1, 0, 1, s.Held, s.Held + 1, p.Burst, p.Burst + 1, 1 << 40, 1 << 61, most}
				if r := Room(p, s, now); r != 0 {
					costs = append(costs, r, r+1)
				}
				checkAll(t, p, s, now, kinds, costs)
			}
		}
	}
	draw := scattered()
	for range 100000 {
		p := api.Policy{Kind: api.Bucket, Limit: draw(21), Period: draw(41), Burst: draw(21), Open: draw(1) == 1}
		s := api.State{At: draw(54), Level: draw(62), Held: draw(21)}
		if draw(3) > 0 && p.Burst > 0 {
			s.Held %= p.Burst + 1
			s.Level %= (p.Burst-s.Held)*max(p.Period, 1) + 1
		}
		checkAll(t, p, s, draw(55)-draw(30), []int{draw(3)}, []int{draw(21) - draw(3)})
	}
}

// scattered draws numbers of at most so many bits, of all lengths, the same in every run.
func scattered() func(bits int) int {
	x := uint64(88172645463325252)
	return func(bits int) int {
		x ^= x << 13
		x ^= x >> 7
		x ^= x << 17
		return int(x>>1) >> 8 & (1<<bits - 1) >> (x % uint64(bits))
	}
}

// A walk is what was granted, at which At, of some acts by a clock that leaps.
type walk struct {
	p     api.Policy
	s     api.State
	at    []int
	taken []int
}

// owed is by how many drops what is taken from i on, and more tokens beside, are above what a bucket has and what dropped since.
func (w *walk) owed(i int, more int) int {
	n := more
	for _, cost := range w.taken[i:] {
		n += cost
	}
	return (n-w.p.Burst)*w.p.Period - w.p.Limit*(w.s.At-w.at[i])
}

func (w *walk) act(a api.Act) bool {
	s, ok := Do(w.p, w.s, a)
	if w.s = s; ok && (a.Kind == api.Take || a.Kind == api.Commit) {
		w.at = append(w.at, s.At)
		w.taken = append(w.taken, a.Cost)
	}
	return ok
}

// walks goes many ways with small numbers, where each grant is near to what is too much, and calls step after each.
func walks(kinds int, step func(w *walk, a api.Act, granted bool)) {
	draw := scattered()
	for range 400 {
		w := &walk{p: api.Policy{Kind: api.Bucket, Limit: 1 + draw(3), Period: 1 + draw(5), Burst: 1 + draw(4)}}
		clock := draw(10)
		w.s = New(w.p, clock)
		for range 60 {
			clock += draw(4)
			now := clock
			if draw(3) == 0 {
				now -= draw(12)
			}
			a := api.Act{Kind: 1 + draw(2)%kinds, Now: now, Cost: 1 + draw(3)}
			step(w, a, w.act(a))
		}
	}
}

// TestEnvelopes is P2: in no time is more taken, or held beside it, than a bucket has and what dropped in that time.
func TestEnvelopes(t *testing.T) {
	granted := 0
	walks(4, func(w *walk, a api.Act, ok bool) {
		if ok {
			granted++
		}
		for i := range w.at {
			if n := w.owed(i, w.s.Held); n > 0 {
				t.Fatalf("%v: %d drops too many since %d: %v, %v, %v", w.p, n, w.at[i], w.at, w.taken, w.s)
			}
		}
	})
	if granted < 1000 {
		t.Fatal("too little was granted to tell:", granted)
	}
}

// TestNotAllIsDenied is P3: what is denied, and what was taken since some time, would be more than the envelope of that time.
func TestNotAllIsDenied(t *testing.T) {
	denied := 0
	walks(1, func(w *walk, a api.Act, ok bool) {
		if ok {
			return
		}
		denied++
		tooMuch := a.Cost > w.p.Burst
		now := *w
		now.s.At = max(w.s.At, a.Now)
		for i := range w.at {
			tooMuch = tooMuch || now.owed(i, a.Cost) > 0
		}
		if !tooMuch {
			t.Fatalf("%v: %v denied: %v, %v, %v", w.p, a, w.at, w.taken, w.s)
		}
	})
	if denied < 1000 {
		t.Fatal("too little was denied to tell:", denied)
	}
}

// TestRetries is P4: what is denied is granted when Retry tells, at no time before, and never, if it tells that.
func TestRetries(t *testing.T) {
	walks(4, func(w *walk, a api.Act, _ bool) {
		s := Advance(w.p, w.s, a.Now)
		for cost := range w.p.Burst + 3 {
			take := func(later int) bool {
				_, ok := Do(w.p, w.s, api.Act{Kind: api.Take, Now: s.At + later, Cost: cost})
				return ok
			}
			n, ok := Retry(w.p, w.s, a.Now, cost)
			for i := range n {
				if take(i) {
					t.Fatalf("%v, %v at %d: %d is granted after %d, ahead of %d", w.p, w.s, a.Now, cost, i, n)
				}
			}
			if later := take(n); ok && !later || !ok && (later || take(api.MaxTime-s.At)) {
				t.Fatalf("%v, %v at %d: %d after %d: %t", w.p, w.s, a.Now, cost, n, ok)
			}
		}
	})
}

// TestFull: a bucket is as new after Until, and at no time before.
func TestFull(t *testing.T) {
	walks(4, func(w *walk, a api.Act, _ bool) {
		s := Advance(w.p, w.s, a.Now)
		n := Until(w.p, w.s, a.Now)
		if s.Held > 0 {
			if n != -1 {
				t.Fatalf("%v, %v: %d, though some is held", w.p, s, n)
			}
			return
		}
		for i := range n + 1 {
			if full := same(Advance(w.p, w.s, s.At+i), New(w.p, s.At+i)); full != (i == n) {
				t.Fatalf("%v, %v at %d: full after %d is %t, Until %d", w.p, w.s, a.Now, i, full, n)
			}
		}
	})
}

// drip is a state one nanosecond later, drop by drop.
func drip(p api.Policy, s api.State) api.State {
	for range p.Limit {
		if s.Level < (p.Burst-s.Held)*p.Period {
			s.Level++
		}
	}
	s.At++
	return s
}

// TestDropByDrop holds the answers against buckets that fill one drop after the other, all small ones that there are.
func TestDropByDrop(t *testing.T) {
	for n := range 4 * 4 * 4 {
		p := api.Policy{Kind: api.Bucket, Limit: 1 + n%4, Period: 1 + n/4%4, Burst: 1 + n/16}
		for held := range p.Burst + 1 {
			full := (p.Burst - held) * p.Period
			for level := range full + 1 {
				first := api.State{At: 3, Level: level, Held: held}
				filled := -1
				room := make([]int, p.Burst+1)
				for s := first; s.At < 3+full+2; s = drip(p, s) {
					if got := Advance(p, first, s.At); !same(got, s) {
						t.Fatalf("Advance(%v, %v, %d): %v, not %v", p, first, s.At, got, s)
					}
					if filled < 0 && s.Level == p.Burst*p.Period {
						filled = s.At - 3
					}
					for cost := s.Level/p.Period + 1; cost <= p.Burst; cost++ {
						room[cost] = s.At + 1 - 3
					}
				}
				if got := Until(p, first, 0); got != filled {
					t.Fatalf("Until(%v, %v): %d, not %d", p, first, got, filled)
				}
				for cost := 1; cost <= p.Burst-held; cost++ {
					if got, ok := Retry(p, first, 0, cost); got != room[cost] || !ok {
						t.Fatalf("Retry(%v, %v, %d): %d, %t, not %d", p, first, cost, got, ok, room[cost])
					}
				}
			}
		}
	}
}

// FuzzBucket looks for inputs that the edges miss: go test -fuzz=FuzzBucket ./bucket.
func FuzzBucket(f *testing.F) {
	f.Add(1, 10, 1000, 5, 0, 0, 5000, 0, 7, 1, 5)
	f.Add(1, 1<<20, 1<<40, 1<<20, 0, 1<<53, 1<<60, 0, most, 2, 1<<20)
	f.Add(1, 1<<20, 1, 1, 0, 0, 0, 1, most, 3, 1)
	f.Add(1, 1, 1<<40, 1<<20, 0, 0, 0, 0, least, 4, least)
	f.Fuzz(func(t *testing.T, kind, limit, period, burst, caps, at, level, held, now, act, cost int) {
		p := api.Policy{Kind: kind, Limit: limit, Period: period, Burst: burst, Cap: caps}
		checkAll(t, p, api.State{At: at, Level: level, Held: held}, now, []int{act}, []int{cost})
	})
}

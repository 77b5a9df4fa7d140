package counter

import (
	"reflect"
	"testing"

	"tapster/api"
)

const (
	most  = 1<<63 - 1
	least = -1 << 63
)

// small has a time that ends at every hundred.
func small() api.Policy {
	return api.Policy{Kind: api.Count, Limit: 10, Period: 100}
}

// widest has the most of all, tiniest the least of all, longest one for long, shortest much for no time; uneven does not end when the clock does.
func widest() api.Policy {
	return api.Policy{Kind: api.Count, Limit: api.MaxLimit, Period: api.MaxPeriod}
}

func tiniest() api.Policy {
	return api.Policy{Kind: api.Count, Limit: 1, Period: 1}
}

func longest() api.Policy {
	return api.Policy{Kind: api.Count, Limit: 1, Period: api.MaxPeriod}
}

func shortest() api.Policy {
	return api.Policy{Kind: api.Count, Limit: api.MaxLimit, Period: 1}
}

func uneven() api.Policy {
	return api.Policy{Kind: api.Count, Limit: api.MaxLimit - 1, Period: api.MaxPeriod - 1}
}

func allPolicies() []api.Policy {
	return []api.Policy{small(), widest(), tiniest(), longest(), shortest(), uneven()}
}

// wrongPolicies differ from one that may be in one field each.
func wrongPolicies() []api.Policy {
	l := []api.Policy{{}}
	change := func(by func(*api.Policy)) {
		p := small()
		by(&p)
		l = append(l, p)
	}
	for _, n := range []int{least, -1, 0, api.Bucket, api.Gcra, api.Log, 5, most} {
		change(func(p *api.Policy) { p.Kind = n })
	}
	for _, n := range []int{least, -1, 0, api.MaxLimit + 1, most} {
		change(func(p *api.Policy) { p.Limit = n })
	}
	for _, n := range []int{least, -1, 0, api.MaxPeriod + 1, most} {
		change(func(p *api.Policy) { p.Period = n })
	}
	for _, n := range []int{least, -1, 1, 10, most} {
		change(func(p *api.Policy) { p.Burst = n })
		change(func(p *api.Policy) { p.Cap = n })
	}
	return l
}

// wrongStates are not Right by small: each for one reason, but for the last three, whose sums wrap round.
func wrongStates() []api.State {
	return []api.State{
		{At: -1},
		{At: least},
		{At: api.MaxTime + 1},
		{At: most},
		{At: 50, Held: -1},
		{At: 50, Held: -1, Level: 5},
		{At: 50, Held: -1, Level: 11},
		{At: 50, Held: least},
		{At: 50, Held: 11},
		{At: 50, Held: most},
		{At: 50, Level: -1},
		{At: 50, Level: -1, Held: 5},
		{At: 50, Level: -1, Held: 11},
		{At: 50, Level: least},
		{At: 50, Level: 11},
		{At: 50, Level: most},
		{At: 50, Held: 1, Level: 10},
		{At: 50, Held: 10, Level: 1},
		{At: 50, Held: 5, Level: 6},
		{At: 50, Log: []api.Entry{{}}},
		{At: 50, Level: 1, Log: []api.Entry{{T: 50, Cost: 1}}},
		{At: 50, Level: 1, Log: []api.Entry{{T: 1, Cost: 1}, {T: 2, Cost: 2}}},
		{At: 50, Held: most, Level: most},
		{At: 50, Held: most, Level: 1},
		{At: 50, Held: 1, Level: most},
	}
}

// rightStates are at the edges of what p lets be.
func rightStates(p api.Policy) []api.State {
	var l []api.State
	last := api.MaxTime / max(p.Period, 1) * p.Period
	for _, at := range []int{0, 1, p.Period - 1, p.Period, p.Period + 1, 3*p.Period - 1, 3 * p.Period, last - 1, last, api.MaxTime - 1, api.MaxTime} {
		for _, held := range []int{0, 1, p.Limit / 2, p.Limit - 1, p.Limit} {
			for _, level := range []int{0, 1, p.Limit / 2, p.Limit - held - 1, p.Limit - held} {
				if s := (api.State{At: at, Level: level, Held: held}); exactRight(p, s) {
					l = append(l, s)
				}
			}
		}
	}
	return l
}

func same(a, b api.State) bool {
	return a.At == b.At && a.Level == b.Level && a.Held == b.Held && len(a.Log) == 0 && len(b.Log) == 0
}

// checkNoughts holds what is told of a state that is not Right.
func checkNoughts(t *testing.T, p api.Policy, s api.State, now, kind, cost int) {
	t.Helper()
	if Right(p, s) {
		t.Fatalf("Right(%v, %v)", p, s)
	}
	if got := Advance(p, s, now); !same(got, api.State{}) {
		t.Fatalf("Advance(%v, %v, %d): %v", p, s, now, got)
	}
	if got := Room(p, s, now); got != 0 {
		t.Fatalf("Room(%v, %v, %d): %d", p, s, now, got)
	}
	if got, ok := Do(p, s, api.Act{Kind: kind, Now: now, Cost: cost}); ok || !same(got, api.State{}) {
		t.Fatalf("Do(%v, %v, %d %d %d): %v, %t", p, s, kind, now, cost, got, ok)
	}
	if got := Until(p, s, now); got != -1 {
		t.Fatalf("Until(%v, %v, %d): %d", p, s, now, got)
	}
	if got, ok := Retry(p, s, now, cost); got != 0 || ok {
		t.Fatalf("Retry(%v, %v, %d, %d): %d, %t", p, s, now, cost, got, ok)
	}
}

func TestExample(t *testing.T) {
	p := api.Policy{Kind: api.Count, Limit: 5, Period: 1000}
	s, ok := Do(p, New(p, 10), api.Act{Kind: api.Take, Now: 10, Cost: 5})
	if !ok || !same(s, api.State{At: 10, Level: 5}) {
		t.Fatal(s, ok)
	}
	if u, ok := Do(p, s, api.Act{Kind: api.Take, Now: 10, Cost: 1}); ok || !same(u, s) {
		t.Fatal(u, ok)
	}
	if n, ok := Retry(p, s, 10, 1); n != 990 || !ok {
		t.Fatal(n, ok)
	}
	if u, ok := Do(p, s, api.Act{Kind: api.Take, Now: 999, Cost: 1}); ok || !same(u, s) {
		t.Fatal(u, ok)
	}
	if u, ok := Do(p, s, api.Act{Kind: api.Take, Now: 1000, Cost: 1}); !ok || !same(u, api.State{At: 1000, Level: 1}) {
		t.Fatal(u, ok)
	}
}

func TestCheck(t *testing.T) {
	for _, p := range allPolicies() {
		for _, p.Open = range []bool{false, true} {
			if got := Check(p); got != api.OK {
				t.Errorf("Check(%v): %d", p, got)
			}
		}
	}
	for _, p := range wrongPolicies() {
		for _, p.Open = range []bool{false, true} {
			if got := Check(p); got != api.ErrArg {
				t.Errorf("Check(%v): %d", p, got)
			}
		}
	}
}

func TestNew(t *testing.T) {
	for _, x := range [][2]int{{7, 7}, {0, 0}, {-1, 0}, {least, 0}, {api.MaxTime - 1, api.MaxTime - 1}, {api.MaxTime, api.MaxTime}, {api.MaxTime + 1, api.MaxTime}, {most, api.MaxTime}} {
		for _, p := range allPolicies() {
			got := New(p, x[0])
			if !same(got, api.State{At: x[1]}) || !Right(p, got) || Until(p, got, x[0]) != 0 || Room(p, got, x[0]) != p.Limit {
				t.Errorf("New(%v, %d): %v", p, x[0], got)
			}
		}
	}
	for _, p := range wrongPolicies() {
		if got := New(p, 5); !same(got, api.State{}) {
			t.Errorf("New(%v, 5): %v", p, got)
		}
	}
}

func TestRight(t *testing.T) {
	for _, s := range []api.State{
		{},
		{At: api.MaxTime},
		{At: 50, Level: 1},
		{At: 50, Level: 10},
		{At: 50, Held: 1},
		{At: 50, Held: 10},
		{At: 50, Held: 1, Level: 9},
		{At: 50, Held: 9, Level: 1},
		{At: 50, Held: 5, Level: 5},
		{At: 50, Level: 1, Log: []api.Entry{}},
	} {
		if !Right(small(), s) {
			t.Errorf("not Right of %v", s)
		}
		for _, p := range wrongPolicies() {
			if Right(p, s) {
				t.Errorf("Right(%v, %v)", p, s)
			}
		}
	}
	for _, s := range wrongStates() {
		if Right(small(), s) {
			t.Errorf("Right of %v", s)
		}
	}
	for _, x := range []struct {
		p           api.Policy
		held, level int
		right       bool
	}{
		{widest(), 0, api.MaxLimit, true},
		{widest(), 0, api.MaxLimit + 1, false},
		{widest(), api.MaxLimit, 0, true},
		{widest(), api.MaxLimit + 1, 0, false},
		{widest(), api.MaxLimit - 1, 1, true},
		{widest(), api.MaxLimit, 1, false},
		{tiniest(), 0, 1, true},
		{tiniest(), 1, 0, true},
		{tiniest(), 1, 1, false},
	} {
		if got := Right(x.p, api.State{At: 5, Held: x.held, Level: x.level}); got != x.right {
			t.Errorf("Right by %v, %d held, of %d: %t", x.p, x.held, x.level, got)
		}
	}
}

func TestAdvance(t *testing.T) {
	// last is the begin of the last time by small: 92 nanoseconds before the clock's end.
	const last = api.MaxTime - 92
	for _, x := range []struct {
		name string
		p    api.Policy
		s    api.State
		now  int
		want api.State
	}{
		{"within a time", small(), api.State{At: 5, Level: 7, Held: 2}, 8, api.State{At: 8, Level: 7, Held: 2}},
		{"no time", small(), api.State{At: 5, Level: 7, Held: 2}, 5, api.State{At: 5, Level: 7, Held: 2}},
		{"its last nanosecond", small(), api.State{At: 5, Level: 7, Held: 2}, 99, api.State{At: 99, Level: 7, Held: 2}},
		{"the next one's first", small(), api.State{At: 5, Level: 7, Held: 2}, 100, api.State{At: 100, Held: 2}},
		{"from the last to the first", small(), api.State{At: 99, Level: 7}, 100, api.State{At: 100}},
		{"from the first to the last", small(), api.State{At: 100, Level: 7}, 199, api.State{At: 199, Level: 7}},
		{"from the first to the next one's first", small(), api.State{At: 100, Level: 7}, 200, api.State{At: 200}},
		{"less than a period, but another time", small(), api.State{At: 160, Level: 7}, 230, api.State{At: 230}},
		{"many times later", small(), api.State{At: 160, Level: 7, Held: 3}, 98765, api.State{At: 98765, Held: 3}},
		{"nothing is counted", small(), api.State{At: 160, Held: 10}, 200, api.State{At: 200, Held: 10}},
		{"the clock goes back", small(), api.State{At: 160, Level: 7, Held: 2}, 159, api.State{At: 160, Level: 7, Held: 2}},
		{"the clock goes back by a time", small(), api.State{At: 160, Level: 7, Held: 2}, 40, api.State{At: 160, Level: 7, Held: 2}},
		{"the clock goes back from the first nanosecond", small(), api.State{At: 100, Level: 7}, 99, api.State{At: 100, Level: 7}},
		{"now below 0", small(), api.State{At: 160, Level: 7, Held: 2}, -9, api.State{At: 160, Level: 7, Held: 2}},
		{"now below 0, in the first time", small(), api.State{At: 0, Level: 7}, -1, api.State{At: 0, Level: 7}},
		{"now the least", small(), api.State{At: 160, Level: 7, Held: 2}, least, api.State{At: 160, Level: 7, Held: 2}},
		{"now MaxTime", small(), api.State{At: last, Level: 7, Held: 2}, api.MaxTime, api.State{At: api.MaxTime, Level: 7, Held: 2}},
		{"now MaxTime, from the time before", small(), api.State{At: last - 1, Level: 7, Held: 2}, api.MaxTime, api.State{At: api.MaxTime, Held: 2}},
		{"now above MaxTime", small(), api.State{At: last, Level: 7, Held: 2}, api.MaxTime + 1, api.State{At: api.MaxTime, Level: 7, Held: 2}},
		{"now in a time that the clock never tells", small(), api.State{At: last, Level: 7, Held: 2}, last + 100, api.State{At: api.MaxTime, Level: 7, Held: 2}},
		{"now the greatest", small(), api.State{At: last, Level: 7, Held: 2}, most, api.State{At: api.MaxTime, Level: 7, Held: 2}},
		{"the longest Period, one short", longest(), api.State{At: 5, Level: 1}, api.MaxPeriod - 1, api.State{At: api.MaxPeriod - 1, Level: 1}},
		{"the longest Period", longest(), api.State{At: 5, Level: 1}, api.MaxPeriod, api.State{At: api.MaxPeriod}},
		{"the longest Period, to MaxTime", longest(), api.State{At: api.MaxTime - 1, Level: 1}, api.MaxTime, api.State{At: api.MaxTime}},
		{"the shortest Period", tiniest(), api.State{At: 5, Level: 1}, 5, api.State{At: 5, Level: 1}},
		{"the shortest Period, later", tiniest(), api.State{At: 5, Level: 1}, 6, api.State{At: 6}},
		{"the shortest Period, the clock goes back", tiniest(), api.State{At: 5, Level: 1}, 4, api.State{At: 5, Level: 1}},
	} {
		if got := Advance(x.p, x.s, x.now); !same(got, x.want) {
			t.Errorf("%s: Advance(%v, %v, %d): %v, not %v", x.name, x.p, x.s, x.now, got, x.want)
		}
	}
}

func TestRoom(t *testing.T) {
	for _, x := range []struct {
		s    api.State
		now  int
		want int
	}{
		{api.State{}, 0, 10},
		{api.State{At: 5, Level: 1}, 5, 9},
		{api.State{At: 5, Held: 3}, 5, 7},
		{api.State{At: 5, Level: 4, Held: 3}, 99, 3},
		{api.State{At: 5, Level: 4, Held: 3}, 100, 7},
		{api.State{At: 5, Level: 7, Held: 3}, 99, 0},
		{api.State{At: 5, Level: 7, Held: 3}, 100, 7},
		{api.State{At: 5, Level: 10}, 99, 0},
		{api.State{At: 5, Level: 10}, 100, 10},
		{api.State{At: 5, Held: 10}, most, 0},
		{api.State{At: 160, Level: 4}, 40, 6},
		{api.State{At: 160, Level: 4}, least, 6},
		{api.State{At: 160, Level: 4}, most, 10},
		{api.State{At: api.MaxTime, Level: 4}, most, 6},
	} {
		if got := Room(small(), x.s, x.now); got != x.want {
			t.Errorf("Room(%v, %d): %d, not %d", x.s, x.now, got, x.want)
		}
	}
}

func TestDo(t *testing.T) {
	for _, x := range []struct {
		name string
		s    api.State
		a    api.Act
		want api.State
		ok   bool
	}{
		{"Take", api.State{At: 5, Level: 2, Held: 1}, api.Act{Kind: api.Take, Now: 15, Cost: 3}, api.State{At: 15, Level: 5, Held: 1}, true},
		{"Take of Room", api.State{At: 5, Level: 2, Held: 1}, api.Act{Kind: api.Take, Now: 99, Cost: 7}, api.State{At: 99, Level: 9, Held: 1}, true},
		{"Take of one more", api.State{At: 5, Level: 2, Held: 1}, api.Act{Kind: api.Take, Now: 99, Cost: 8}, api.State{At: 5, Level: 2, Held: 1}, false},
		{"Take in the next time", api.State{At: 5, Level: 2, Held: 1}, api.Act{Kind: api.Take, Now: 100, Cost: 9}, api.State{At: 100, Level: 9, Held: 1}, true},
		{"Take of one more in the next time", api.State{At: 5, Level: 2, Held: 1}, api.Act{Kind: api.Take, Now: 100, Cost: 10}, api.State{At: 5, Level: 2, Held: 1}, false},
		{"Take when the clock goes back", api.State{At: 105, Level: 2}, api.Act{Kind: api.Take, Now: 95, Cost: 8}, api.State{At: 105, Level: 10}, true},
		{"Take of one more when the clock goes back", api.State{At: 105, Level: 2}, api.Act{Kind: api.Take, Now: -9, Cost: 9}, api.State{At: 105, Level: 2}, false},
		{"Take at the end of time", api.State{At: 5, Level: 2}, api.Act{Kind: api.Take, Now: most, Cost: 10}, api.State{At: api.MaxTime, Level: 10}, true},
		{"Take of all", api.State{}, api.Act{Kind: api.Take, Cost: 10}, api.State{Level: 10}, true},
		{"Take of what is held", api.State{Held: 2}, api.Act{Kind: api.Take, Now: 9999, Cost: 9}, api.State{Held: 2}, false},
		{"Take without room", api.State{Level: 10}, api.Act{Kind: api.Take, Now: 9, Cost: 1}, api.State{Level: 10}, false},
		{"Take of 0", api.State{Level: 2}, api.Act{Kind: api.Take, Now: 9, Cost: 0}, api.State{Level: 2}, false},
		{"Take of 0 without room", api.State{Level: 10}, api.Act{Kind: api.Take, Now: 9, Cost: 0}, api.State{Level: 10}, false},
		{"Take of less", api.State{Level: 2}, api.Act{Kind: api.Take, Now: 9, Cost: -1}, api.State{Level: 2}, false},
		{"Take of the least", api.State{Level: 2}, api.Act{Kind: api.Take, Now: 9, Cost: least}, api.State{Level: 2}, false},
		{"Take of the greatest", api.State{Level: 2}, api.Act{Kind: api.Take, Now: 9, Cost: most}, api.State{Level: 2}, false},
		{"Hold", api.State{At: 5, Level: 2, Held: 1}, api.Act{Kind: api.Hold, Now: 15, Cost: 3}, api.State{At: 15, Level: 2, Held: 4}, true},
		{"Hold of Room", api.State{At: 5, Level: 2, Held: 1}, api.Act{Kind: api.Hold, Now: 99, Cost: 7}, api.State{At: 99, Level: 2, Held: 8}, true},
		{"Hold of one more", api.State{At: 5, Level: 2, Held: 1}, api.Act{Kind: api.Hold, Now: 99, Cost: 8}, api.State{At: 5, Level: 2, Held: 1}, false},
		{"Hold in the next time", api.State{At: 5, Level: 2, Held: 1}, api.Act{Kind: api.Hold, Now: 100, Cost: 9}, api.State{At: 100, Held: 10}, true},
		{"Hold of one more in the next time", api.State{At: 5, Level: 2, Held: 1}, api.Act{Kind: api.Hold, Now: 100, Cost: 10}, api.State{At: 5, Level: 2, Held: 1}, false},
		{"Hold of all", api.State{}, api.Act{Kind: api.Hold, Cost: 10}, api.State{Held: 10}, true},
		{"Hold of 0", api.State{Level: 2}, api.Act{Kind: api.Hold, Now: 9, Cost: 0}, api.State{Level: 2}, false},
		{"Hold of less", api.State{Level: 2}, api.Act{Kind: api.Hold, Now: 9, Cost: -1}, api.State{Level: 2}, false},
		{"Hold of the greatest", api.State{Level: 2}, api.Act{Kind: api.Hold, Now: 9, Cost: most}, api.State{Level: 2}, false},
		{"Release", api.State{At: 5, Level: 2, Held: 3}, api.Act{Kind: api.Release, Now: 15, Cost: 2}, api.State{At: 15, Level: 2, Held: 1}, true},
		{"Release of what is held", api.State{At: 5, Level: 2, Held: 3}, api.Act{Kind: api.Release, Now: 15, Cost: 3}, api.State{At: 15, Level: 2}, true},
		{"Release of one more", api.State{At: 5, Level: 2, Held: 3}, api.Act{Kind: api.Release, Now: 15, Cost: 4}, api.State{At: 5, Level: 2, Held: 3}, false},
		{"Release in the next time", api.State{At: 5, Level: 2, Held: 3}, api.Act{Kind: api.Release, Now: 100, Cost: 2}, api.State{At: 100, Held: 1}, true},
		{"Release of one more in the next time", api.State{At: 5, Level: 2, Held: 3}, api.Act{Kind: api.Release, Now: 100, Cost: 4}, api.State{At: 5, Level: 2, Held: 3}, false},
		{"Release when the clock goes back", api.State{At: 105, Level: 2, Held: 3}, api.Act{Kind: api.Release, Now: 95, Cost: 3}, api.State{At: 105, Level: 2}, true},
		{"Release of more than there is room for", api.State{At: 5, Level: 2, Held: 8}, api.Act{Kind: api.Release, Now: 15, Cost: 8}, api.State{At: 15, Level: 2}, true},
		{"Release of nothing held", api.State{At: 5, Level: 2}, api.Act{Kind: api.Release, Now: 15, Cost: 1}, api.State{At: 5, Level: 2}, false},
		{"Release of 0", api.State{Level: 2, Held: 3}, api.Act{Kind: api.Release, Now: 15, Cost: 0}, api.State{Level: 2, Held: 3}, false},
		{"Release of less", api.State{Level: 2, Held: 3}, api.Act{Kind: api.Release, Now: 15, Cost: -1}, api.State{Level: 2, Held: 3}, false},
		{"Release of the greatest", api.State{Level: 2, Held: 3}, api.Act{Kind: api.Release, Now: 15, Cost: most}, api.State{Level: 2, Held: 3}, false},
		{"Commit", api.State{At: 5, Level: 2, Held: 3}, api.Act{Kind: api.Commit, Now: 15, Cost: 2}, api.State{At: 15, Level: 4, Held: 1}, true},
		{"Commit of what is held", api.State{At: 5, Level: 2, Held: 3}, api.Act{Kind: api.Commit, Now: 15, Cost: 3}, api.State{At: 15, Level: 5}, true},
		{"Commit of one more", api.State{At: 5, Level: 2, Held: 3}, api.Act{Kind: api.Commit, Now: 15, Cost: 4}, api.State{At: 5, Level: 2, Held: 3}, false},
		{"Commit in the next time", api.State{At: 5, Level: 2, Held: 3}, api.Act{Kind: api.Commit, Now: 100, Cost: 2}, api.State{At: 100, Level: 2, Held: 1}, true},
		{"Commit of one more in the next time", api.State{At: 5, Level: 2, Held: 3}, api.Act{Kind: api.Commit, Now: 100, Cost: 4}, api.State{At: 5, Level: 2, Held: 3}, false},
		{"Commit when the clock goes back", api.State{At: 105, Level: 2, Held: 3}, api.Act{Kind: api.Commit, Now: 95, Cost: 3}, api.State{At: 105, Level: 5}, true},
		{"Commit without room", api.State{At: 5, Level: 2, Held: 8}, api.Act{Kind: api.Commit, Now: 15, Cost: 8}, api.State{At: 15, Level: 10}, true},
		{"Commit of nothing held", api.State{At: 5, Level: 2}, api.Act{Kind: api.Commit, Now: 15, Cost: 1}, api.State{At: 5, Level: 2}, false},
		{"Commit of 0", api.State{Level: 2, Held: 3}, api.Act{Kind: api.Commit, Now: 15, Cost: 0}, api.State{Level: 2, Held: 3}, false},
		{"Commit of less", api.State{Level: 2, Held: 3}, api.Act{Kind: api.Commit, Now: 15, Cost: -1}, api.State{Level: 2, Held: 3}, false},
		{"Commit of the greatest", api.State{Level: 2, Held: 3}, api.Act{Kind: api.Commit, Now: 15, Cost: most}, api.State{Level: 2, Held: 3}, false},
		{"no act", api.State{Level: 2, Held: 3}, api.Act{Now: 9, Cost: 1}, api.State{Level: 2, Held: 3}, false},
		{"no act, of 0", api.State{Level: 2, Held: 3}, api.Act{Now: 9}, api.State{Level: 2, Held: 3}, false},
		{"no act, in the next time", api.State{Level: 2, Held: 3}, api.Act{Now: 100, Cost: 1}, api.State{Level: 2, Held: 3}, false},
		{"the fifth", api.State{Level: 2, Held: 3}, api.Act{Kind: 5, Now: 9, Cost: 1}, api.State{Level: 2, Held: 3}, false},
		{"below 0", api.State{Level: 2, Held: 3}, api.Act{Kind: -1, Now: 9, Cost: 1}, api.State{Level: 2, Held: 3}, false},
		{"the least", api.State{Level: 2, Held: 3}, api.Act{Kind: least, Now: 9, Cost: 1}, api.State{Level: 2, Held: 3}, false},
		{"the greatest", api.State{Level: 2, Held: 3}, api.Act{Kind: most, Now: 9, Cost: 1}, api.State{Level: 2, Held: 3}, false},
	} {
		if got, ok := Do(small(), x.s, x.a); !same(got, x.want) || ok != x.ok {
			t.Errorf("%s: Do(%v, %v): %v, %t, not %v, %t", x.name, x.s, x.a, got, ok, x.want, x.ok)
		}
	}
}

func TestUntil(t *testing.T) {
	for _, x := range []struct {
		p    api.Policy
		s    api.State
		now  int
		want int
	}{
		{small(), api.State{}, 0, 0},
		{small(), api.State{At: 5}, 50, 0},
		{small(), api.State{At: 0, Level: 1}, 0, 100},
		{small(), api.State{At: 0, Level: 10}, 0, 100},
		{small(), api.State{At: 100, Level: 1}, 0, 100},
		{small(), api.State{At: 5, Level: 1}, 0, 95},
		{small(), api.State{At: 5, Level: 1}, 50, 50},
		{small(), api.State{At: 5, Level: 1}, 99, 1},
		{small(), api.State{At: 5, Level: 1}, 100, 0},
		{small(), api.State{At: 5, Level: 1}, 101, 0},
		{small(), api.State{At: 5, Level: 1}, least, 95},
		{small(), api.State{At: 5, Level: 1}, most, 0},
		{small(), api.State{At: 150, Level: 1}, 20, 50},
		{small(), api.State{At: 199, Level: 1}, 20, 1},
		{small(), api.State{At: api.MaxTime, Level: 1}, most, 8},
		{small(), api.State{At: 5, Held: 1}, 50, -1},
		{small(), api.State{At: 5, Level: 1, Held: 1}, 50, -1},
		{small(), api.State{At: 5, Level: 1, Held: 1}, 100, -1},
		{small(), api.State{At: 5, Held: 10}, most, -1},
		{widest(), api.State{At: api.MaxTime, Level: 1}, 0, api.MaxPeriod},
		{longest(), api.State{At: 0, Level: 1}, 0, api.MaxPeriod},
		{longest(), api.State{At: 0, Level: 1}, api.MaxPeriod - 1, 1},
		{longest(), api.State{At: 0, Level: 1}, api.MaxPeriod, 0},
		{tiniest(), api.State{At: 7, Level: 1}, 7, 1},
		{tiniest(), api.State{At: 7, Level: 1}, 8, 0},
		{tiniest(), api.State{At: api.MaxTime, Level: 1}, most, 1},
	} {
		if got := Until(x.p, x.s, x.now); got != x.want {
			t.Errorf("Until(%v, %v, %d): %d, not %d", x.p, x.s, x.now, got, x.want)
		}
	}
}

func TestRetry(t *testing.T) {
	for _, x := range []struct {
		p         api.Policy
		s         api.State
		now, cost int
		want      int
		ok        bool
	}{
		{small(), api.State{}, 0, 1, 0, true},
		{small(), api.State{}, 0, 10, 0, true},
		{small(), api.State{}, 0, 11, 0, false},
		{small(), api.State{}, 0, 0, 0, false},
		{small(), api.State{}, 0, -1, 0, false},
		{small(), api.State{}, 0, least, 0, false},
		{small(), api.State{}, 0, most, 0, false},
		{small(), api.State{At: 5, Level: 4}, 50, 6, 0, true},
		{small(), api.State{At: 5, Level: 4}, 50, 7, 50, true},
		{small(), api.State{At: 5, Level: 4}, 50, 10, 50, true},
		{small(), api.State{At: 5, Level: 4}, 50, 11, 0, false},
		{small(), api.State{At: 5, Level: 4}, 5, 7, 95, true},
		{small(), api.State{At: 5, Level: 4}, 99, 7, 1, true},
		{small(), api.State{At: 5, Level: 4}, 100, 7, 0, true},
		{small(), api.State{At: 0, Level: 4}, 0, 7, 100, true},
		{small(), api.State{At: 100, Level: 4}, 99, 7, 100, true},
		{small(), api.State{At: 150, Level: 4}, 20, 7, 50, true},
		{small(), api.State{At: 150, Level: 4}, least, 7, 50, true},
		{small(), api.State{At: 150, Level: 4}, most, 7, 0, true},
		{small(), api.State{At: api.MaxTime, Level: 4}, most, 7, 8, true},
		{small(), api.State{At: 5, Level: 4, Held: 3}, 50, 3, 0, true},
		{small(), api.State{At: 5, Level: 4, Held: 3}, 50, 4, 50, true},
		{small(), api.State{At: 5, Level: 4, Held: 3}, 50, 7, 50, true},
		{small(), api.State{At: 5, Level: 4, Held: 3}, 50, 8, 0, false},
		{small(), api.State{At: 5, Level: 4, Held: 3}, 100, 8, 0, false},
		{small(), api.State{At: 5, Held: 10}, 100, 1, 0, false},
		{small(), api.State{At: 5, Held: 10}, 100, 0, 0, false},
		{small(), api.State{At: 5, Level: 10}, 50, 0, 0, false},
		{small(), api.State{At: 5, Level: 10}, 50, -1, 0, false},
		{widest(), api.State{At: api.MaxTime, Level: 1}, 0, api.MaxLimit, api.MaxPeriod, true},
		{widest(), api.State{At: api.MaxTime, Level: 1}, 0, api.MaxLimit + 1, 0, false},
		{longest(), api.State{At: 0, Level: 1}, api.MaxPeriod - 1, 1, 1, true},
		{tiniest(), api.State{At: 7, Level: 1}, 7, 1, 1, true},
		{tiniest(), api.State{At: 7, Level: 1}, 8, 1, 0, true},
		{tiniest(), api.State{At: 7, Level: 1}, 7, 2, 0, false},
	} {
		if got, ok := Retry(x.p, x.s, x.now, x.cost); got != x.want || ok != x.ok {
			t.Errorf("Retry(%v, %v, %d, %d): %d, %t, not %d, %t", x.p, x.s, x.now, x.cost, got, ok, x.want, x.ok)
		}
	}
}

// TestWrong is what is told of policies that may not be and of states that are not Right.
func TestWrong(t *testing.T) {
	for _, s := range wrongStates() {
		checkNoughts(t, small(), s, 9, api.Take, 1)
		checkNoughts(t, small(), s, 9, api.Release, 1)
		checkNoughts(t, small(), s, 9, 5, 0)
	}
	for _, p := range wrongPolicies() {
		for _, s := range append(wrongStates(), rightStates(small())...) {
			checkNoughts(t, p, s, 9, api.Take, 1)
			checkNoughts(t, p, s, most, api.Release, 1)
		}
	}
}

// TestNothingIsKept: neither is an argument changed, nor does its memory come out again.
func TestNothingIsKept(t *testing.T) {
	room := []api.Entry{{T: 1, Cost: 2}, {T: 3, Cost: 4}}
	before := []api.Entry{{T: 1, Cost: 2}, {T: 3, Cost: 4}}
	for _, n := range []int{0, 2} {
		s := api.State{At: 5, Level: 3, Held: 1, Log: room[:n]}
		out := []api.State{Advance(small(), s, 9), Advance(small(), s, 100)}
		for kind := range 6 {
			for _, cost := range []int{0, 1, 9} {
				u, _ := Do(small(), s, api.Act{Kind: kind, Now: 9, Cost: cost})
				out = append(out, u)
			}
		}
		for _, u := range out {
			if cap(u.Log) != 0 {
				t.Errorf("%v has room that is the caller's", u)
			}
		}
	}
	if !reflect.DeepEqual(room, before) {
		t.Error("changed:", room)
	}
}

package gcra

import (
	"reflect"
	"testing"

	"tapster/api"
)

const (
	most  = 1<<63 - 1
	least = -1 << 63
)

// small is the policy of the document's example.
func small() api.Policy {
	return api.Policy{Kind: api.Gcra, Limit: 10, Period: 1000, Burst: 5}
}

// widest has the greatest debt, steepest pays the most off of the least one, slowest has the longest wait, tiniest the least of all.
func widest() api.Policy {
	return api.Policy{Kind: api.Gcra, Limit: api.MaxLimit, Period: api.MaxPeriod, Burst: api.MaxLimit}
}

func steepest() api.Policy {
	return api.Policy{Kind: api.Gcra, Limit: api.MaxLimit, Period: 1, Burst: 1}
}

func slowest() api.Policy {
	return api.Policy{Kind: api.Gcra, Limit: 1, Period: api.MaxPeriod, Burst: api.MaxLimit}
}

func tiniest() api.Policy {
	return api.Policy{Kind: api.Gcra, Limit: 1, Period: 1, Burst: 1}
}

func allPolicies() []api.Policy {
	return []api.Policy{small(), widest(), steepest(), slowest(), tiniest()}
}

// wrongPolicies differ from one that may be in one field each.
func wrongPolicies() []api.Policy {
	l := []api.Policy{{}}
	change := func(by func(*api.Policy)) {
		p := small()
		by(&p)
		l = append(l, p)
	}
	for _, n := range []int{least, -1, 0, api.Bucket, api.Log, api.Count, 5, most} {
		change(func(p *api.Policy) { p.Kind = n })
	}
	for _, n := range []int{least, -1, 0, api.MaxLimit + 1, most} {
		change(func(p *api.Policy) { p.Limit = n })
		change(func(p *api.Policy) { p.Burst = n })
	}
	for _, n := range []int{least, -1, 0, api.MaxPeriod + 1, most} {
		change(func(p *api.Policy) { p.Period = n })
	}
	for _, n := range []int{least, -1, 1, 5, most} {
		change(func(p *api.Policy) { p.Cap = n })
	}
	return l
}

// wrongStates are not Right by small, each for one reason.
func wrongStates() []api.State {
	return []api.State{
		{At: -1},
		{At: least},
		{At: api.MaxTime + 1},
		{At: most},
		{Held: -1},
		{Held: -1, Level: -1000},
		{Held: least},
		{Held: 6, Level: 5000},
		{Held: 6, Level: 6000},
		{Held: most, Level: 5000},
		{Level: -1},
		{Level: least},
		{Level: 5001},
		{Level: most},
		{Held: 1},
		{Held: 1, Level: 999},
		{Held: 1, Level: 5001},
		{Held: 5, Level: 4999},
		{Held: 5, Level: 5001},
		{Level: 1000, Log: []api.Entry{{}}},
		{Level: 1000, Log: []api.Entry{{T: 1, Cost: 1}, {T: 2, Cost: 2}}},
	}
}

// rightStates are at the edges of what p lets be.
func rightStates(p api.Policy) []api.State {
	var l []api.State
	all := p.Burst * p.Period
	for _, held := range []int{0, 1, p.Burst / 2, p.Burst - 1, p.Burst} {
		kept := held * p.Period
		for _, level := range []int{kept, kept + 1, kept + p.Limit, kept + p.Period - 1, kept + p.Period, (kept + all) / 2, all - p.Period, all - 1, all} {
			if held < 0 || level < kept || level > all {
				continue
			}
			for _, at := range []int{0, 1000, api.MaxTime - 1, api.MaxTime} {
				l = append(l, api.State{At: at, Level: level, Held: held})
			}
		}
	}
	return l
}

func same(a, b api.State) bool {
	return a.At == b.At && a.Level == b.Level && a.Held == b.Held && len(a.Log) == 0 && len(b.Log) == 0
}

// checkNoughts holds what is told of a state that is not Right.
func checkNoughts(t *testing.T, p api.Policy, s api.State, now, kind, cost int) {
	t.Helper()
	if Right(p, s) {
		t.Fatalf("Right(%v, %v)", p, s)
	}
	if got := Advance(p, s, now); !same(got, api.State{}) {
		t.Fatalf("Advance(%v, %v, %d): %v", p, s, now, got)
	}
	if got := Room(p, s, now); got != 0 {
		t.Fatalf("Room(%v, %v, %d): %d", p, s, now, got)
	}
	if got, ok := Do(p, s, api.Act{Kind: kind, Now: now, Cost: cost}); ok || !same(got, api.State{}) {
		t.Fatalf("Do(%v, %v, %d %d %d): %v, %t", p, s, kind, now, cost, got, ok)
	}
	if got := Until(p, s, now); got != -1 {
		t.Fatalf("Until(%v, %v, %d): %d", p, s, now, got)
	}
	if got, ok := Retry(p, s, now, cost); got != 0 || ok {
		t.Fatalf("Retry(%v, %v, %d, %d): %d, %t", p, s, now, cost, got, ok)
	}
}

func TestExample(t *testing.T) {
	p := small()
	s, ok := Do(p, New(p, 0), api.Act{Kind: api.Take, Cost: 5})
	if !ok || !same(s, api.State{Level: 5000}) {
		t.Fatal(s, ok)
	}
	if u, ok := Do(p, s, api.Act{Kind: api.Take, Cost: 1}); ok || !same(u, s) {
		t.Fatal(u, ok)
	}
	if n, ok := Retry(p, s, 0, 1); n != 100 || !ok {
		t.Fatal(n, ok)
	}
	if u, ok := Do(p, s, api.Act{Kind: api.Take, Now: 99, Cost: 1}); ok || !same(u, s) {
		t.Fatal(u, ok)
	}
	if u, ok := Do(p, s, api.Act{Kind: api.Take, Now: 100, Cost: 1}); !ok || !same(u, api.State{At: 100, Level: 5000}) {
		t.Fatal(u, ok)
	}
}

func TestCheck(t *testing.T) {
	for _, p := range allPolicies() {
		for _, p.Open = range []bool{false, true} {
			if got := Check(p); got != api.OK {
				t.Errorf("Check(%v): %d", p, got)
			}
		}
	}
	for _, p := range wrongPolicies() {
		for _, p.Open = range []bool{false, true} {
			if got := Check(p); got != api.ErrArg {
				t.Errorf("Check(%v): %d", p, got)
			}
		}
	}
}

func TestNew(t *testing.T) {
	for _, x := range [][2]int{{7, 7}, {0, 0}, {-1, 0}, {least, 0}, {api.MaxTime - 1, api.MaxTime - 1}, {api.MaxTime, api.MaxTime}, {api.MaxTime + 1, api.MaxTime}, {most, api.MaxTime}} {
		for _, p := range allPolicies() {
			got := New(p, x[0])
			if !same(got, api.State{At: x[1]}) || !Right(p, got) || Until(p, got, x[0]) != 0 || Room(p, got, x[0]) != p.Burst {
				t.Errorf("New(%v, %d): %v", p, x[0], got)
			}
		}
	}
	for _, p := range wrongPolicies() {
		if got := New(p, 5); !same(got, api.State{}) {
			t.Errorf("New(%v, 5): %v", p, got)
		}
	}
}

func TestRight(t *testing.T) {
	for _, s := range []api.State{{}, {At: api.MaxTime}, {Level: 1}, {Level: 5000}, {Held: 1, Level: 1000}, {Held: 1, Level: 5000}, {Held: 5, Level: 5000}, {Level: 1, Log: []api.Entry{}}} {
		if !Right(small(), s) {
			t.Errorf("not Right of %v", s)
		}
		for _, p := range wrongPolicies() {
			if Right(p, s) {
				t.Errorf("Right(%v, %v)", p, s)
			}
		}
	}
	for _, s := range wrongStates() {
		if Right(small(), s) {
			t.Errorf("Right of %v", s)
		}
	}
	for _, x := range []struct {
		held, level int
		right       bool
	}{
		{0, 1 << 60, true},
		{0, 1<<60 + 1, false},
		{1 << 20, 1 << 60, true},
		{1 << 20, 1<<60 - 1, false},
		{1<<20 + 1, 1 << 60, false},
		{1 << 40, 1, false}, // 2^40 units are 2^80 parts, which wrap round to none
	} {
		if got := Right(widest(), api.State{Held: x.held, Level: x.level}); got != x.right {
			t.Errorf("Right of the widest, %d held, of %d: %t", x.held, x.level, got)
		}
	}
}

func TestAdvance(t *testing.T) {
	for _, x := range []struct {
		name string
		p    api.Policy
		s    api.State
		now  int
		want api.State
	}{
		{"some is paid", small(), api.State{At: 5, Level: 77}, 8, api.State{At: 8, Level: 47}},
		{"no time", small(), api.State{At: 5, Level: 77}, 5, api.State{At: 5, Level: 77}},
		{"the clock goes back", small(), api.State{At: 5, Level: 77}, 4, api.State{At: 5, Level: 77}},
		{"now below 0", small(), api.State{At: 5, Level: 77}, -9, api.State{At: 5, Level: 77}},
		{"now the least", small(), api.State{At: 5, Level: 77}, least, api.State{At: 5, Level: 77}},
		{"one is left", small(), api.State{Level: 11}, 1, api.State{At: 1, Level: 1}},
		{"just all", small(), api.State{Level: 10}, 1, api.State{At: 1}},
		{"more than all", small(), api.State{Level: 9}, 1, api.State{At: 1}},
		{"no debt", small(), api.State{}, 9, api.State{At: 9}},
		{"one above what is held", small(), api.State{Level: 2011, Held: 2}, 1, api.State{At: 1, Level: 2001, Held: 2}},
		{"just what is held", small(), api.State{Level: 2010, Held: 2}, 1, api.State{At: 1, Level: 2000, Held: 2}},
		{"held is not paid", small(), api.State{Level: 2009, Held: 2}, 9, api.State{At: 9, Level: 2000, Held: 2}},
		{"all is held", small(), api.State{Level: 5000, Held: 5}, 900, api.State{At: 900, Level: 5000, Held: 5}},
		{"now MaxTime", small(), api.State{Level: 77}, api.MaxTime, api.State{At: api.MaxTime}},
		{"now above MaxTime", small(), api.State{At: api.MaxTime - 1, Level: 77}, api.MaxTime + 1, api.State{At: api.MaxTime, Level: 67}},
		{"now the greatest", small(), api.State{At: api.MaxTime - 1, Level: 77}, most, api.State{At: api.MaxTime, Level: 67}},
		{"paid is no number", steepest(), api.State{Level: 1}, api.MaxTime, api.State{At: api.MaxTime}},
		{"paid is no number, all is held", steepest(), api.State{Level: 1, Held: 1}, api.MaxTime, api.State{At: api.MaxTime, Level: 1, Held: 1}},
		{"paid wraps round to nothing", widest(), api.State{Level: 1 << 60}, 1 << 44, api.State{At: 1 << 44}},
		{"paid wraps round below 0", widest(), api.State{Level: 1 << 60, Held: 1}, 1 << 43, api.State{At: 1 << 43, Level: 1 << 40, Held: 1}},
		{"the most that is a number", widest(), api.State{}, 1<<43 - 1, api.State{At: 1<<43 - 1}},
		{"the widest, one short", widest(), api.State{Level: 1 << 60}, 1<<40 - 1, api.State{At: 1<<40 - 1, Level: 1 << 20}},
		{"the slowest in all of time", slowest(), api.State{Level: 1 << 60}, api.MaxTime, api.State{At: api.MaxTime, Level: 1<<60 - 1<<53}},
	} {
		if got := Advance(x.p, x.s, x.now); !same(got, x.want) {
			t.Errorf("%s: Advance(%v, %v, %d): %v, not %v", x.name, x.p, x.s, x.now, got, x.want)
		}
	}
}

func TestRoom(t *testing.T) {
	for _, x := range []struct {
		s    api.State
		now  int
		want int
	}{
		{api.State{Level: 5000}, 0, 0},
		{api.State{Level: 5000}, 99, 0},
		{api.State{Level: 5000}, 100, 1},
		{api.State{At: 100, Level: 5000}, 99, 0},
		{api.State{At: 100, Level: 5000}, least, 0},
		{api.State{At: 100, Level: 3001}, 0, 1},
		{api.State{At: 100, Level: 3001}, 101, 2},
		{api.State{At: 100, Level: 3000}, 0, 2},
		{api.State{Level: 1}, 0, 4},
		{api.State{}, 0, 5},
		{api.State{Level: 5000}, most, 5},
		{api.State{Held: 2, Level: 5000}, most, 3},
		{api.State{Held: 5, Level: 5000}, most, 0},
	} {
		if got := Room(small(), x.s, x.now); got != x.want {
			t.Errorf("Room(%v, %d): %d, not %d", x.s, x.now, got, x.want)
		}
	}
}

func TestDo(t *testing.T) {
	for _, x := range []struct {
		name string
		s    api.State
		a    api.Act
		want api.State
		ok   bool
	}{
		{"Take", api.State{At: 5, Level: 2000}, api.Act{Kind: api.Take, Now: 15, Cost: 2}, api.State{At: 15, Level: 3900}, true},
		{"Take of Room", api.State{At: 5, Level: 2100}, api.Act{Kind: api.Take, Now: 15, Cost: 3}, api.State{At: 15, Level: 5000}, true},
		{"Take of one more", api.State{At: 5, Level: 2100}, api.Act{Kind: api.Take, Now: 15, Cost: 4}, api.State{At: 5, Level: 2100}, false},
		{"Take just too early", api.State{At: 5, Level: 2100}, api.Act{Kind: api.Take, Now: 14, Cost: 3}, api.State{At: 5, Level: 2100}, false},
		{"Take when the clock goes back", api.State{At: 5, Level: 2100}, api.Act{Kind: api.Take, Now: -9, Cost: 2}, api.State{At: 5, Level: 4100}, true},
		{"Take at the end of time", api.State{At: 5, Level: 2100}, api.Act{Kind: api.Take, Now: most, Cost: 5}, api.State{At: api.MaxTime, Level: 5000}, true},
		{"Take of all", api.State{}, api.Act{Kind: api.Take, Cost: 5}, api.State{Level: 5000}, true},
		{"Take beside what is held", api.State{Held: 2, Level: 2000}, api.Act{Kind: api.Take, Cost: 3}, api.State{Held: 2, Level: 5000}, true},
		{"Take of what is held", api.State{Held: 2, Level: 2000}, api.Act{Kind: api.Take, Now: 9999, Cost: 4}, api.State{Held: 2, Level: 2000}, false},
		{"Take of 0", api.State{Level: 2000}, api.Act{Kind: api.Take, Now: 9, Cost: 0}, api.State{Level: 2000}, false},
		{"Take of 0 without room", api.State{Level: 5000}, api.Act{Kind: api.Take, Cost: 0}, api.State{Level: 5000}, false},
		{"Take of less", api.State{Level: 2000}, api.Act{Kind: api.Take, Now: 9, Cost: -1}, api.State{Level: 2000}, false},
		{"Take of the least", api.State{Level: 2000}, api.Act{Kind: api.Take, Now: 9, Cost: least}, api.State{Level: 2000}, false},
		{"Take of the greatest", api.State{Level: 2000}, api.Act{Kind: api.Take, Now: 9, Cost: most}, api.State{Level: 2000}, false},
		{"Take of a cost that wraps round", api.State{Level: 2000}, api.Act{Kind: api.Take, Now: 9, Cost: 1 << 61}, api.State{Level: 2000}, false},
		{"Hold", api.State{At: 5, Level: 2000, Held: 1}, api.Act{Kind: api.Hold, Now: 15, Cost: 2}, api.State{At: 15, Level: 3900, Held: 3}, true},
		{"Hold of all", api.State{At: 5}, api.Act{Kind: api.Hold, Now: 15, Cost: 5}, api.State{At: 15, Level: 5000, Held: 5}, true},
		{"Hold of one more", api.State{At: 5}, api.Act{Kind: api.Hold, Now: 15, Cost: 6}, api.State{At: 5}, false},
		{"Hold of Room", api.State{At: 5, Level: 2100}, api.Act{Kind: api.Hold, Now: 15, Cost: 3}, api.State{At: 15, Level: 5000, Held: 3}, true},
		{"Hold just too early", api.State{At: 5, Level: 2100}, api.Act{Kind: api.Hold, Now: 14, Cost: 3}, api.State{At: 5, Level: 2100}, false},
		{"Hold of what is held", api.State{Held: 2, Level: 2000}, api.Act{Kind: api.Hold, Now: 9999, Cost: 4}, api.State{Held: 2, Level: 2000}, false},
		{"Hold of 0", api.State{Level: 2000}, api.Act{Kind: api.Hold, Now: 9, Cost: 0}, api.State{Level: 2000}, false},
		{"Hold of less", api.State{Level: 2000}, api.Act{Kind: api.Hold, Now: 9, Cost: -1}, api.State{Level: 2000}, false},
		{"Release", api.State{At: 5, Level: 4000, Held: 3}, api.Act{Kind: api.Release, Now: 15, Cost: 2}, api.State{At: 15, Level: 1900, Held: 1}, true},
		{"Release of all", api.State{At: 5, Level: 5000, Held: 5}, api.Act{Kind: api.Release, Now: 15, Cost: 5}, api.State{At: 15}, true},
		{"Release is of what was not paid meanwhile", api.State{Level: 3000, Held: 3}, api.Act{Kind: api.Release, Now: 9999, Cost: 1}, api.State{At: 9999, Level: 2000, Held: 2}, true},
		{"Release when the clock goes back", api.State{At: 5, Level: 4000, Held: 3}, api.Act{Kind: api.Release, Now: 4, Cost: 3}, api.State{At: 5, Level: 1000}, true},
		{"Release of one more", api.State{At: 5, Level: 4000, Held: 3}, api.Act{Kind: api.Release, Now: 15, Cost: 4}, api.State{At: 5, Level: 4000, Held: 3}, false},
		{"Release of nothing held", api.State{At: 5, Level: 4000}, api.Act{Kind: api.Release, Now: 15, Cost: 1}, api.State{At: 5, Level: 4000}, false},
		{"Release of 0", api.State{Level: 3000, Held: 3}, api.Act{Kind: api.Release, Now: 15, Cost: 0}, api.State{Level: 3000, Held: 3}, false},
		{"Release of less", api.State{Level: 3000, Held: 3}, api.Act{Kind: api.Release, Now: 15, Cost: -1}, api.State{Level: 3000, Held: 3}, false},
		{"Release of the greatest", api.State{Level: 3000, Held: 3}, api.Act{Kind: api.Release, Now: 15, Cost: most}, api.State{Level: 3000, Held: 3}, false},
		{"Commit", api.State{At: 5, Level: 4000, Held: 3}, api.Act{Kind: api.Commit, Now: 15, Cost: 2}, api.State{At: 15, Level: 3900, Held: 1}, true},
		{"Commit of all", api.State{At: 5, Level: 5000, Held: 5}, api.Act{Kind: api.Commit, Now: 15, Cost: 5}, api.State{At: 15, Level: 5000}, true},
		{"Commit of one more", api.State{At: 5, Level: 4000, Held: 3}, api.Act{Kind: api.Commit, Now: 15, Cost: 4}, api.State{At: 5, Level: 4000, Held: 3}, false},
		{"Commit of nothing held", api.State{At: 5, Level: 4000}, api.Act{Kind: api.Commit, Now: 15, Cost: 1}, api.State{At: 5, Level: 4000}, false},
		{"Commit of the greatest", api.State{Level: 3000, Held: 3}, api.Act{Kind: api.Commit, Now: 15, Cost: most}, api.State{Level: 3000, Held: 3}, false},
		{"Commit of 0", api.State{Level: 3000, Held: 3}, api.Act{Kind: api.Commit, Now: 15, Cost: 0}, api.State{Level: 3000, Held: 3}, false},
		{"no act", api.State{Level: 2000, Held: 2}, api.Act{Now: 9, Cost: 1}, api.State{Level: 2000, Held: 2}, false},
		{"no act, of 0", api.State{Level: 2000, Held: 2}, api.Act{Now: 9}, api.State{Level: 2000, Held: 2}, false},
		{"the fifth", api.State{Level: 2000, Held: 2}, api.Act{Kind: 5, Now: 9, Cost: 1}, api.State{Level: 2000, Held: 2}, false},
		{"below 0", api.State{Level: 2000, Held: 2}, api.Act{Kind: -1, Now: 9, Cost: 1}, api.State{Level: 2000, Held: 2}, false},
	} {
		if got, ok := Do(small(), x.s, x.a); !same(got, x.want) || ok != x.ok {
			t.Errorf("%s: Do(%v, %v): %v, %t, not %v, %t", x.name, x.s, x.a, got, ok, x.want, x.ok)
		}
	}
}

func TestUntil(t *testing.T) {
	for _, x := range []struct {
		p    api.Policy
		s    api.State
		now  int
		want int
	}{
		{small(), api.State{}, 0, 0},
		{small(), api.State{Level: 5000}, 0, 500},
		{small(), api.State{Level: 1}, 0, 1},
		{small(), api.State{Level: 10}, 0, 1},
		{small(), api.State{Level: 11}, 0, 2},
		{small(), api.State{At: 7, Level: 5000}, 100, 407},
		{small(), api.State{At: 7, Level: 5000}, 0, 500},
		{small(), api.State{At: 7, Level: 5000}, 506, 1},
		{small(), api.State{At: 7, Level: 5000}, 507, 0},
		{small(), api.State{At: 7, Level: 5000}, most, 0},
		{small(), api.State{Held: 1, Level: 1000}, 0, -1},
		{small(), api.State{Held: 5, Level: 5000}, most, -1},
		{slowest(), api.State{At: api.MaxTime, Level: 1 << 60}, 0, 1 << 60},
		{slowest(), api.State{Level: 1 << 60}, most, 1<<60 - 1<<53},
		{widest(), api.State{Level: 1 << 60}, 0, 1 << 40},
		{steepest(), api.State{Level: 1}, 0, 1},
	} {
		if got := Until(x.p, x.s, x.now); got != x.want {
			t.Errorf("Until(%v, %v, %d): %d, not %d", x.p, x.s, x.now, got, x.want)
		}
	}
}

func TestRetry(t *testing.T) {
	for _, x := range []struct {
		p         api.Policy
		s         api.State
		now, cost int
		want      int
		ok        bool
	}{
		{small(), api.State{Level: 3000}, 0, 2, 0, true},
		{small(), api.State{Level: 3001}, 0, 1, 0, true},
		{small(), api.State{}, 0, 5, 0, true},
		{small(), api.State{Level: 2001}, 0, 3, 1, true},
		{small(), api.State{Level: 2010}, 0, 3, 1, true},
		{small(), api.State{Level: 2011}, 0, 3, 2, true},
		{small(), api.State{At: 7, Level: 5000}, 0, 5, 500, true},
		{small(), api.State{At: 7, Level: 5000}, 100, 5, 407, true},
		{small(), api.State{At: 7, Level: 5000}, most, 5, 0, true},
		{small(), api.State{Level: 5000}, 0, 6, 0, false},
		{small(), api.State{}, 0, 6, 0, false},
		{small(), api.State{}, 0, 0, 0, false},
		{small(), api.State{}, 0, -1, 0, false},
		{small(), api.State{Level: 5000}, 0, least, 0, false},
		{small(), api.State{Level: 5000}, 0, most, 0, false},
		{small(), api.State{Held: 2, Level: 5000}, 0, 3, 300, true},
		{small(), api.State{Held: 2, Level: 5000}, 0, 4, 0, false},
		{small(), api.State{Held: 2, Level: 2000}, 0, 3, 0, true},
		{small(), api.State{Held: 5, Level: 5000}, 0, 1, 0, false},
		{small(), api.State{Held: 5, Level: 5000}, 0, 0, 0, false},
		{slowest(), api.State{At: api.MaxTime, Level: 1 << 60}, 0, api.MaxLimit, 1 << 60, true},
		{slowest(), api.State{At: api.MaxTime, Level: 1 << 60}, 0, 1, 1 << 40, true},
	} {
		if got, ok := Retry(x.p, x.s, x.now, x.cost); got != x.want || ok != x.ok {
			t.Errorf("Retry(%v, %v, %d, %d): %d, %t, not %d, %t", x.p, x.s, x.now, x.cost, got, ok, x.want, x.ok)
		}
	}
}

// TestWrong is what is told of policies that may not be and of states that are not Right.
func TestWrong(t *testing.T) {
	for _, s := range wrongStates() {
		checkNoughts(t, small(), s, 9, api.Take, 1)
		checkNoughts(t, small(), s, 9, api.Release, 1)
		checkNoughts(t, small(), s, 9, 5, 0)
	}
	for _, p := range wrongPolicies() {
		for _, s := range append(wrongStates(), rightStates(small())...) {
			checkNoughts(t, p, s, 9, api.Take, 1)
			checkNoughts(t, p, s, most, api.Release, 1)
		}
	}
}

// TestNothingIsKept: neither is an argument changed, nor does its memory come out again.
func TestNothingIsKept(t *testing.T) {
	room := []api.Entry{{T: 1, Cost: 2}, {T: 3, Cost: 4}}
	before := []api.Entry{{T: 1, Cost: 2}, {T: 3, Cost: 4}}
	for _, n := range []int{0, 2} {
		s := api.State{At: 5, Level: 3000, Held: 1, Log: room[:n]}
		out := []api.State{Advance(small(), s, 9)}
		for kind := range 6 {
			for _, cost := range []int{0, 1, 9} {
				u, _ := Do(small(), s, api.Act{Kind: kind, Now: 9, Cost: cost})
				out = append(out, u)
			}
		}
		for _, u := range out {
			if cap(u.Log) != 0 {
				t.Errorf("%v has room that is the caller's", u)
			}
		}
	}
	if !reflect.DeepEqual(room, before) {
		t.Error("changed:", room)
	}
}

package window

import (
	"slices"
	"testing"

	"tapster/api"
)

const (
	most  = 1<<63 - 1
	least = -1 << 63
)

// small has a Limit above its Cap, so that entries may be too many without being too much.
func small() api.Policy {
	return api.Policy{Kind: api.Log, Limit: 10, Period: 100, Cap: 3}
}

// widest has the most of all, tiniest the least of all, single but one entry for much, longest but one unit for long, shortest many entries for no time.
func widest() api.Policy {
	return api.Policy{Kind: api.Log, Limit: api.MaxLimit, Period: api.MaxPeriod, Cap: api.MaxLog}
}

func tiniest() api.Policy {
	return api.Policy{Kind: api.Log, Limit: 1, Period: 1, Cap: 1}
}

func single() api.Policy {
	return api.Policy{Kind: api.Log, Limit: api.MaxLimit, Period: 1000, Cap: 1}
}

func longest() api.Policy {
	return api.Policy{Kind: api.Log, Limit: 1, Period: api.MaxPeriod, Cap: api.MaxLog}
}

func shortest() api.Policy {
	return api.Policy{Kind: api.Log, Limit: api.MaxLimit, Period: 1, Cap: api.MaxLog}
}

func allPolicies() []api.Policy {
	return []api.Policy{small(), widest(), tiniest(), single(), longest(), shortest()}
}

// wrongPolicies differ from one that may be in one field each.
func wrongPolicies() []api.Policy {
	l := []api.Policy{{}}
	change := func(by func(*api.Policy)) {
		p := small()
		by(&p)
		l = append(l, p)
	}
	for _, n := range []int{least, -1, 0, api.Bucket, api.Gcra, api.Count, 5, most} {
		change(func(p *api.Policy) { p.Kind = n })
	}
	for _, n := range []int{least, -1, 0, api.MaxLimit + 1, most} {
		change(func(p *api.Policy) { p.Limit = n })
	}
	for _, n := range []int{least, -1, 0, api.MaxPeriod + 1, most} {
		change(func(p *api.Policy) { p.Period = n })
	}
	for _, n := range []int{least, -1, 0, api.MaxLog + 1, most} {
		change(func(p *api.Policy) { p.Cap = n })
	}
	for _, n := range []int{least, -1, 1, 10, most} {
		change(func(p *api.Policy) { p.Burst = n })
	}
	return l
}

// entries are pairs of a T and a Cost.
func entries(pairs ...int) []api.Entry {
	var l []api.Entry
	for pair := range slices.Chunk(pairs, 2) {
		l = append(l, api.Entry{T: pair[0], Cost: pair[1]})
	}
	return l
}

// state has no Level, as no state by a log has.
func state(at, held int, pairs ...int) api.State {
	return api.State{At: at, Held: held, Log: entries(pairs...)}
}

// row has count entries of a Cost, each step later than the one before it.
func row(count, first, step, cost int) []api.Entry {
	var l []api.Entry
	for i := range count {
		l = append(l, api.Entry{T: first + i*step, Cost: cost})
	}
	return l
}

// wrongStates are not Right by small: each for one reason, but for the last two, whose sums wrap round.
func wrongStates() []api.State {
	return []api.State{
		state(-1, 0),
		state(least, 0),
		state(api.MaxTime+1, 0),
		state(most, 0),
		state(500, -1),
		state(500, -1, 1, 5),
		state(500, least),
		state(500, 11),
		state(500, most),
		{At: 500, Level: 1},
		{At: 500, Level: -1},
		{At: 500, Level: most},
		{At: 500, Level: least},
		{At: 500, Level: 5, Held: 2, Log: entries(450, 5)},
		state(500, 0, 1, 1, 2, 1, 3, 1, 4, 1),
		state(500, 0, 450, 1, 450, 1, 450, 1, 450, 1),
		state(500, 0, 3, 1, 2, 1),
		state(500, 0, 1, 1, 3, 1, 2, 1),
		state(500, 0, 500, 1, 499, 1),
		state(500, 0, -1, 1),
		state(500, 0, -1, 1, 3, 1),
		state(500, 0, least, 1),
		state(500, 0, 501, 1),
		state(500, 0, 450, 1, 501, 1),
		state(500, 0, most, 1),
		state(500, 0, 450, 0),
		state(500, 0, 450, -1),
		state(500, 0, 450, least),
		state(500, 0, 450, 1, 451, 0),
		state(500, 0, 450, 5, 451, -1),
		state(500, 0, 450, -1, 451, 5),
		state(500, 0, 450, 11),
		state(500, 0, 450, most),
		state(500, 0, 450, 5, 451, 6),
		state(500, 0, 450, 4, 451, 4, 452, 3),
		state(500, 0, 1, 5, 450, 6),
		state(500, 1, 450, 10),
		state(500, 1, 1, 10),
		state(500, 10, 450, 1),
		state(500, 5, 450, 3, 451, 3),
		state(500, 0, 450, most, 451, most, 452, 2),
		state(500, 1, 450, most),
	}
}

// rightStates are at the edges of what p lets be.
func rightStates(p api.Policy) []api.State {
	var l []api.State
	for _, at := range []int{0, 1, p.Period - 1, p.Period, p.Period + 1, 3 * p.Period, api.MaxTime - 1, api.MaxTime} {
		for _, held := range []int{0, 1, p.Limit / 2, p.Limit - 1, p.Limit} {
			left := p.Limit - held
			l = append(l, state(at, held), state(at, held, at, 1), state(at, held, at, left))
			for _, t := range []int{at - p.Period - 1, at - p.Period, at - p.Period + 1, at - 1, 0} {
				l = append(l,
					state(at, held, t, 1),
					state(at, held, t, left),
					state(at, held, t, 1, t, 1),
					state(at, held, t, 1, t, left-1),
					state(at, held, t, left-1, at, 1),
					state(at, held, t-1, 1, t, left-2, t+1, 1))
			}
			for _, cost := range []int{1, left / p.Cap} {
				l = append(l,
					api.State{At: at, Held: held, Log: row(p.Cap, at-p.Cap+1, 1, cost)},
					api.State{At: at, Held: held, Log: row(p.Cap, at-p.Period-p.Cap/2, 1, cost)},
					api.State{At: at, Held: held, Log: row(p.Cap-1, at-p.Period, 0, cost)})
			}
		}
	}
	return slices.DeleteFunc(l, func(s api.State) bool { return !exactRight(p, s) })
}

func same(a, b api.State) bool {
	return a.At == b.At && a.Level == b.Level && a.Held == b.Held && slices.Equal(a.Log, b.Log)
}

// checkNoughts holds what is told of a state that is not Right.
func checkNoughts(t *testing.T, p api.Policy, s api.State, now, kind, cost int) {
	t.Helper()
	if Right(p, s) {
		t.Fatalf("Right(%v, %v)", p, s)
	}
	if got := Advance(p, s, now); !same(got, api.State{}) {
		t.Fatalf("Advance(%v, %v, %d): %v", p, s, now, got)
	}
	if got := Room(p, s, now); got != 0 {
		t.Fatalf("Room(%v, %v, %d): %d", p, s, now, got)
	}
	if got, ok := Do(p, s, api.Act{Kind: kind, Now: now, Cost: cost}); ok || !same(got, api.State{}) {
		t.Fatalf("Do(%v, %v, %d %d %d): %v, %t", p, s, kind, now, cost, got, ok)
	}
	if got := Until(p, s, now); got != -1 {
		t.Fatalf("Until(%v, %v, %d): %d", p, s, now, got)
	}
	if got, ok := Retry(p, s, now, cost); got != 0 || ok {
		t.Fatalf("Retry(%v, %v, %d, %d): %d, %t", p, s, now, cost, got, ok)
	}
}

func TestExample(t *testing.T) {
	p := api.Policy{Kind: api.Log, Limit: 5, Period: 1000, Cap: 9}
	s, ok := Do(p, New(p, 10), api.Act{Kind: api.Take, Now: 10, Cost: 5})
	if !ok || !same(s, state(10, 0, 10, 5)) {
		t.Fatal(s, ok)
	}
	if u, ok := Do(p, s, api.Act{Kind: api.Take, Now: 10, Cost: 1}); ok || !same(u, s) {
		t.Fatal(u, ok)
	}
	if n, ok := Retry(p, s, 10, 1); n != 1000 || !ok {
		t.Fatal(n, ok)
	}
	if u, ok := Do(p, s, api.Act{Kind: api.Take, Now: 1009, Cost: 1}); ok || !same(u, s) {
		t.Fatal(u, ok)
	}
	if u, ok := Do(p, s, api.Act{Kind: api.Take, Now: 1010, Cost: 1}); !ok || !same(u, state(1010, 0, 1010, 1)) {
		t.Fatal(u, ok)
	}
}

func TestCheck(t *testing.T) {
	for _, p := range allPolicies() {
		for _, p.Open = range []bool{false, true} {
			if got := Check(p); got != api.OK {
				t.Errorf("Check(%v): %d", p, got)
			}
		}
	}
	for _, p := range wrongPolicies() {
		for _, p.Open = range []bool{false, true} {
			if got := Check(p); got != api.ErrArg {
				t.Errorf("Check(%v): %d", p, got)
			}
		}
	}
}

func TestNew(t *testing.T) {
	for _, x := range [][2]int{{7, 7}, {0, 0}, {-1, 0}, {least, 0}, {api.MaxTime - 1, api.MaxTime - 1}, {api.MaxTime, api.MaxTime}, {api.MaxTime + 1, api.MaxTime}, {most, api.MaxTime}} {
		for _, p := range allPolicies() {
			got := New(p, x[0])
			if !same(got, state(x[1], 0)) || !Right(p, got) || Until(p, got, x[0]) != 0 || Room(p, got, x[0]) != p.Limit {
				t.Errorf("New(%v, %d): %v", p, x[0], got)
			}
		}
	}
	for _, p := range wrongPolicies() {
		if got := New(p, 5); !same(got, api.State{}) {
			t.Errorf("New(%v, 5): %v", p, got)
		}
	}
}

func TestRight(t *testing.T) {
	for _, s := range []api.State{
		{},
		{At: 5, Log: []api.Entry{}},
		state(api.MaxTime, 0),
		state(500, 10),
		state(500, 0, 0, 1),
		state(500, 0, 500, 1),
		state(500, 0, 450, 10),
		state(500, 0, 450, 1, 450, 1, 450, 1),
		state(500, 0, 0, 1, 450, 1, 500, 1),
		state(500, 0, 450, 3, 451, 3, 452, 4),
		state(500, 9, 450, 1),
		state(500, 4, 450, 3, 451, 3),
		state(500, 0, 1, 5, 450, 5),
		state(api.MaxTime, 0, 0, 1, api.MaxTime, 9),
	} {
		if !Right(small(), s) {
			t.Errorf("not Right of %v", s)
		}
		for _, p := range wrongPolicies() {
			if Right(p, s) {
				t.Errorf("Right(%v, %v)", p, s)
			}
		}
	}
	for _, s := range wrongStates() {
		if Right(small(), s) {
			t.Errorf("Right of %v", s)
		}
	}
	for _, x := range []struct {
		p     api.Policy
		s     api.State
		right bool
	}{
		{widest(), api.State{At: 500, Log: row(100, 401, 1, 1)}, true},
		{widest(), api.State{At: 501, Log: row(101, 401, 1, 1)}, false},
		{widest(), state(500, 0, 1, api.MaxLimit), true},
		{widest(), state(500, 0, 1, api.MaxLimit+1), false},
		{widest(), state(500, api.MaxLimit), true},
		{widest(), state(500, api.MaxLimit+1), false},
		{tiniest(), state(500, 0, 500, 1), true},
		{tiniest(), state(500, 0, 499, 1, 500, 1), false},
		{single(), state(500, 0, 1, 1, 2, 1), false},
	} {
		if got := Right(x.p, x.s); got != x.right {
			t.Errorf("Right(%v, %v): %t", x.p, x.s, got)
		}
	}
}

func TestAdvance(t *testing.T) {
	for _, x := range []struct {
		name string
		p    api.Policy
		s    api.State
		now  int
		want api.State
	}{
		{"nothing to forget", small(), state(5, 2), 8, state(8, 2)},
		{"one short of a Period", small(), state(5, 2, 5, 4), 104, state(104, 2, 5, 4)},
		{"just a Period", small(), state(5, 2, 5, 4), 105, state(105, 2)},
		{"one more than a Period", small(), state(5, 2, 5, 4), 106, state(106, 2)},
		{"some are gone", small(), state(9, 0, 5, 1, 7, 2, 9, 3), 107, state(107, 0, 9, 3)},
		{"the first alone is gone", small(), state(9, 0, 5, 1, 7, 2, 9, 3), 106, state(106, 0, 7, 2, 9, 3)},
		{"none is gone", small(), state(9, 0, 5, 1, 7, 2, 9, 3), 104, state(104, 0, 5, 1, 7, 2, 9, 3)},
		{"all are gone", small(), state(9, 1, 5, 1, 7, 2, 9, 3), 109, state(109, 1)},
		{"of the same T all stay", small(), state(9, 0, 5, 1, 5, 2, 5, 3), 104, state(104, 0, 5, 1, 5, 2, 5, 3)},
		{"of the same T all are gone", small(), state(9, 0, 5, 1, 5, 2, 6, 3), 105, state(105, 0, 6, 3)},
		{"no time", small(), state(5, 2, 5, 4), 5, state(5, 2, 5, 4)},
		{"no time, and one that was gone", small(), state(500, 2, 400, 4, 401, 1), 500, state(500, 2, 401, 1)},
		{"the clock goes back", small(), state(500, 2, 401, 4), 3, state(500, 2, 401, 4)},
		{"the clock goes back, and one was gone", small(), state(500, 2, 399, 1, 400, 4), 3, state(500, 2)},
		{"now below 0", small(), state(5, 2, 5, 4), -9, state(5, 2, 5, 4)},
		{"now the least", small(), state(5, 2, 5, 4), least, state(5, 2, 5, 4)},
		{"now MaxTime", small(), state(5, 2, 5, 4), api.MaxTime, state(api.MaxTime, 2)},
		{"now above MaxTime", small(), state(api.MaxTime-99, 2, api.MaxTime-99, 4), api.MaxTime + 1, state(api.MaxTime, 2, api.MaxTime-99, 4)},
		{"now the greatest", small(), state(api.MaxTime-100, 2, api.MaxTime-100, 4), most, state(api.MaxTime, 2)},
		{"an entry of 0, before the first Period ends", small(), state(9, 0, 0, 4), 99, state(99, 0, 0, 4)},
		{"an entry of 0, when it ends", small(), state(9, 0, 0, 4), 100, state(100, 0)},
		{"the longest Period, one short", longest(), state(5, 0, 5, 1), api.MaxPeriod + 4, state(api.MaxPeriod+4, 0, 5, 1)},
		{"the longest Period", longest(), state(5, 0, 5, 1), api.MaxPeriod + 5, state(api.MaxPeriod+5, 0)},
		{"the shortest Period", tiniest(), state(5, 0, 5, 1), 5, state(5, 0, 5, 1)},
		{"the shortest Period, later", tiniest(), state(5, 0, 5, 1), 6, state(6, 0)},
	} {
		if got := Advance(x.p, x.s, x.now); !same(got, x.want) {
			t.Errorf("%s: Advance(%v, %v, %d): %v, not %v", x.name, x.p, x.s, x.now, got, x.want)
		}
	}
}

func TestRoom(t *testing.T) {
	for _, x := range []struct {
		s    api.State
		now  int
		want int
	}{
		{state(5, 0), 5, 10},
		{state(5, 3), 5, 7},
		{state(5, 10), most, 0},
		{state(9, 0, 5, 1, 7, 2, 9, 3), 9, 4},
		{state(9, 1, 5, 1, 7, 2, 9, 3), 104, 3},
		{state(9, 1, 5, 1, 7, 2, 9, 3), 105, 4},
		{state(9, 1, 5, 1, 7, 2, 9, 3), 107, 6},
		{state(9, 1, 5, 1, 7, 2, 9, 3), 109, 9},
		{state(9, 1, 5, 1, 7, 2, 9, 3), least, 3},
		{state(9, 1, 5, 1, 7, 2, 9, 3), most, 9},
		{state(9, 0, 9, 10), 108, 0},
		{state(9, 0, 9, 10), 109, 10},
		{state(9, 4, 9, 6), 108, 0},
		{state(500, 0, 400, 6, 401, 1), 3, 9},
	} {
		if got := Room(small(), x.s, x.now); got != x.want {
			t.Errorf("Room(%v, %d): %d, not %d", x.s, x.now, got, x.want)
		}
	}
}

// deed is what Do is to make of a state.
type deed struct {
	name string
	p    api.Policy
	s    api.State
	a    api.Act
	want api.State
	ok   bool
}

func checkDeeds(t *testing.T, l []deed) {
	t.Helper()
	for _, x := range l {
		if got, ok := Do(x.p, x.s, x.a); !same(got, x.want) || ok != x.ok {
			t.Errorf("%s: Do(%v, %v, %v): %v, %t, not %v, %t", x.name, x.p, x.s, x.a, got, ok, x.want, x.ok)
		}
	}
}

func TestTake(t *testing.T) {
	take := func(now, cost int) api.Act { return api.Act{Kind: api.Take, Now: now, Cost: cost} }
	checkDeeds(t, []deed{
		{"the first", small(), state(5, 0), take(15, 2), state(15, 0, 15, 2), true},
		{"the second", small(), state(5, 1, 5, 4), take(15, 2), state(15, 1, 5, 4, 15, 2), true},
		{"at the last entry's T", small(), state(15, 0, 5, 4, 15, 1), take(15, 2), state(15, 0, 5, 4, 15, 3), true},
		{"at the last entry's T, as the clock goes back", small(), state(15, 0, 5, 4, 15, 1), take(-9, 2), state(15, 0, 5, 4, 15, 3), true},
		{"at a later one than the last entry's T, as the clock goes back", small(), state(15, 0, 5, 4), take(5, 2), state(15, 0, 5, 4, 15, 2), true},
		{"the last place", small(), state(7, 0, 5, 1, 7, 2), take(8, 1), state(8, 0, 5, 1, 7, 2, 8, 1), true},
		{"with Cap entries", small(), state(9, 0, 5, 1, 7, 2, 9, 3), take(10, 4), state(10, 0, 5, 1, 7, 2, 10, 7), true},
		{"with Cap entries, at the last one's T", small(), state(9, 0, 5, 1, 7, 2, 9, 3), take(9, 4), state(9, 0, 5, 1, 7, 2, 9, 7), true},
		{"with Cap entries, of which one goes", small(), state(9, 0, 5, 1, 7, 2, 9, 3), take(105, 5), state(105, 0, 7, 2, 9, 3, 105, 5), true},
		{"with Cap entries, which all go", small(), state(9, 0, 5, 1, 7, 2, 9, 3), take(109, 10), state(109, 0, 109, 10), true},
		{"with Cap entries of the same T", small(), state(9, 0, 5, 1, 5, 2, 5, 3), take(9, 1), state(9, 0, 5, 1, 5, 2, 9, 4), true},
		{"with Cap 1", single(), state(5, 0, 5, 7), take(9, 2), state(9, 0, 9, 9), true},
		{"with Cap 1, when that one went", single(), state(5, 0, 5, 7), take(1005, 2), state(1005, 0, 1005, 2), true},
		{"of Room", small(), state(9, 1, 5, 1, 9, 3), take(10, 5), state(10, 1, 5, 1, 9, 3, 10, 5), true},
		{"of one more", small(), state(9, 1, 5, 1, 9, 3), take(10, 6), state(9, 1, 5, 1, 9, 3), false},
		{"of what goes just then", small(), state(9, 1, 5, 1, 9, 3), take(105, 6), state(105, 1, 9, 3, 105, 6), true},
		{"just too early", small(), state(9, 1, 5, 1, 9, 3), take(104, 6), state(9, 1, 5, 1, 9, 3), false},
		{"as it was, with what had gone", small(), state(500, 1, 5, 1, 400, 3), take(600, 10), state(500, 1, 5, 1, 400, 3), false},
		{"of all", small(), state(5, 0), take(5, 10), state(5, 0, 5, 10), true},
		{"of more than all", small(), state(5, 0), take(5, 11), state(5, 0), false},
		{"of the most there may be", widest(), state(5, 0), take(5, api.MaxLimit), state(5, 0, 5, api.MaxLimit), true},
		{"beside what is held", small(), state(5, 9), take(500, 1), state(500, 9, 500, 1), true},
		{"when all is held", small(), state(5, 10), take(500, 1), state(5, 10), false},
		{"at the end of time", small(), state(5, 0, 5, 4), take(most, 10), state(api.MaxTime, 0, api.MaxTime, 10), true},
		{"of 0", small(), state(5, 0, 5, 4), take(15, 0), state(5, 0, 5, 4), false},
		{"of 0 without room", small(), state(5, 0, 5, 10), take(15, 0), state(5, 0, 5, 10), false},
		{"of less", small(), state(5, 0, 5, 4), take(15, -1), state(5, 0, 5, 4), false},
		{"of the least", small(), state(5, 0, 5, 4), take(15, least), state(5, 0, 5, 4), false},
		{"of the greatest", small(), state(5, 0, 5, 4), take(15, most), state(5, 0, 5, 4), false},
	})
}

func TestHold(t *testing.T) {
	hold := func(now, cost int) api.Act { return api.Act{Kind: api.Hold, Now: now, Cost: cost} }
	checkDeeds(t, []deed{
		{"the first", small(), state(5, 0), hold(15, 2), state(15, 2), true},
		{"the second", small(), state(5, 3, 5, 4), hold(15, 2), state(15, 5, 5, 4), true},
		{"with Cap entries", small(), state(9, 0, 5, 1, 7, 2, 9, 3), hold(9, 4), state(9, 4, 5, 1, 7, 2, 9, 3), true},
		{"of Room", small(), state(9, 1, 5, 1, 9, 3), hold(10, 5), state(10, 6, 5, 1, 9, 3), true},
		{"of one more", small(), state(9, 1, 5, 1, 9, 3), hold(10, 6), state(9, 1, 5, 1, 9, 3), false},
		{"of what goes just then", small(), state(9, 1, 5, 1, 9, 3), hold(105, 6), state(105, 7, 9, 3), true},
		{"just too early", small(), state(9, 1, 5, 1, 9, 3), hold(104, 6), state(9, 1, 5, 1, 9, 3), false},
		{"as it was, with what had gone", small(), state(500, 1, 5, 1, 400, 3), hold(600, 10), state(500, 1, 5, 1, 400, 3), false},
		{"of all", small(), state(5, 0), hold(5, 10), state(5, 10), true},
		{"of more than all", small(), state(5, 0), hold(5, 11), state(5, 0), false},
		{"of what is held", small(), state(5, 2), hold(9999, 9), state(5, 2), false},
		{"when the clock goes back", small(), state(15, 0, 5, 4), hold(-9, 2), state(15, 2, 5, 4), true},
		{"of 0", small(), state(5, 0, 5, 4), hold(15, 0), state(5, 0, 5, 4), false},
		{"of less", small(), state(5, 3, 5, 4), hold(15, -1), state(5, 3, 5, 4), false},
		{"of the greatest", small(), state(5, 3, 5, 4), hold(15, most), state(5, 3, 5, 4), false},
	})
}

func TestRelease(t *testing.T) {
	release := func(now, cost int) api.Act { return api.Act{Kind: api.Release, Now: now, Cost: cost} }
	checkDeeds(t, []deed{
		{"of some", small(), state(5, 3, 5, 4), release(15, 2), state(15, 1, 5, 4), true},
		{"of all", small(), state(5, 3, 5, 4), release(15, 3), state(15, 0, 5, 4), true},
		{"of the Limit", small(), state(5, 10), release(15, 10), state(15, 0), true},
		{"of one more", small(), state(5, 3, 5, 4), release(15, 4), state(5, 3, 5, 4), false},
		{"of nothing held", small(), state(5, 0, 5, 4), release(15, 1), state(5, 0, 5, 4), false},
		{"of what is held for long", small(), state(5, 3, 5, 4), release(9999, 2), state(9999, 1), true},
		{"without room", small(), state(5, 3, 5, 7), release(6, 1), state(6, 2, 5, 7), true},
		{"when the clock goes back", small(), state(15, 3, 5, 4), release(4, 3), state(15, 0, 5, 4), true},
		{"as it was, with what had gone", small(), state(500, 3, 5, 1, 400, 3), release(600, 4), state(500, 3, 5, 1, 400, 3), false},
		{"of 0", small(), state(5, 3, 5, 4), release(15, 0), state(5, 3, 5, 4), false},
		{"of less", small(), state(5, 3, 5, 4), release(15, -1), state(5, 3, 5, 4), false},
		{"of the greatest", small(), state(5, 3, 5, 4), release(15, most), state(5, 3, 5, 4), false},
	})
}

func TestCommit(t *testing.T) {
	commit := func(now, cost int) api.Act { return api.Act{Kind: api.Commit, Now: now, Cost: cost} }
	checkDeeds(t, []deed{
		{"of some", small(), state(5, 3, 5, 4), commit(15, 2), state(15, 1, 5, 4, 15, 2), true},
		{"of all", small(), state(5, 3), commit(15, 3), state(15, 0, 15, 3), true},
		{"of the Limit", small(), state(5, 10), commit(15, 10), state(15, 0, 15, 10), true},
		{"of one more", small(), state(5, 3, 5, 4), commit(15, 4), state(5, 3, 5, 4), false},
		{"of nothing held", small(), state(5, 0, 5, 4), commit(15, 1), state(5, 0, 5, 4), false},
		{"of what is held for long", small(), state(5, 3, 5, 4), commit(9999, 2), state(9999, 1, 9999, 2), true},
		{"without room", small(), state(5, 3, 5, 7), commit(6, 1), state(6, 2, 5, 7, 6, 1), true},
		{"at the last entry's T", small(), state(15, 3, 5, 4, 15, 1), commit(15, 2), state(15, 1, 5, 4, 15, 3), true},
		{"with Cap entries", small(), state(9, 4, 5, 1, 7, 2, 9, 3), commit(10, 4), state(10, 0, 5, 1, 7, 2, 10, 7), true},
		{"with Cap entries, of which one goes", small(), state(9, 4, 5, 1, 7, 2, 9, 3), commit(105, 4), state(105, 0, 7, 2, 9, 3, 105, 4), true},
		{"with Cap 1", single(), state(5, 2, 5, 7), commit(9, 2), state(9, 0, 9, 9), true},
		{"when the clock goes back", small(), state(15, 3, 5, 4), commit(4, 3), state(15, 0, 5, 4, 15, 3), true},
		{"as it was, with what had gone", small(), state(500, 3, 5, 1, 400, 3), commit(600, 4), state(500, 3, 5, 1, 400, 3), false},
		{"of 0", small(), state(5, 3, 5, 4), commit(15, 0), state(5, 3, 5, 4), false},
		{"of less", small(), state(5, 3, 5, 4), commit(15, -1), state(5, 3, 5, 4), false},
		{"of the greatest", small(), state(5, 3, 5, 4), commit(15, most), state(5, 3, 5, 4), false},
	})
}

func TestNoAct(t *testing.T) {
	for _, kind := range []int{least, -1, 0, 5, 6, most} {
		for _, cost := range []int{least, -1, 0, 1, 2, 11, most} {
			s := state(500, 2, 5, 1, 450, 1)
			checkDeeds(t, []deed{{"none of the four", small(), s, api.Act{Kind: kind, Now: 600, Cost: cost}, s, false}})
		}
	}
}

func TestUntil(t *testing.T) {
	for _, x := range []struct {
		p    api.Policy
		s    api.State
		now  int
		want int
	}{
		{small(), state(5, 0), 0, 0},
		{small(), state(5, 0), most, 0},
		{small(), state(5, 0, 5, 10), 0, 100},
		{small(), state(5, 0, 5, 1), 5, 100},
		{small(), state(5, 0, 5, 1), 6, 99},
		{small(), state(5, 0, 5, 1), 104, 1},
		{small(), state(5, 0, 5, 1), 105, 0},
		{small(), state(5, 0, 5, 1), 106, 0},
		{small(), state(5, 0, 5, 1), most, 0},
		{small(), state(9, 0, 5, 1, 7, 2, 9, 3), 9, 100},
		{small(), state(9, 0, 5, 1, 7, 2, 9, 3), 107, 2},
		{small(), state(9, 0, 0, 1), 9, 91},
		{small(), state(500, 0, 400, 1), 0, 0},
		{small(), state(500, 0, 401, 1), 0, 1},
		{small(), state(5, 1), 0, -1},
		{small(), state(5, 1, 5, 1), 0, -1},
		{small(), state(5, 10), most, -1},
		{longest(), state(api.MaxTime, 0, api.MaxTime, 1), most, api.MaxPeriod},
		{longest(), state(api.MaxTime-1, 0, api.MaxTime-1, 1), most, api.MaxPeriod - 1},
		{tiniest(), state(5, 0, 5, 1), 5, 1},
	} {
		if got := Until(x.p, x.s, x.now); got != x.want {
			t.Errorf("Until(%v, %v, %d): %d, not %d", x.p, x.s, x.now, got, x.want)
		}
	}
}

func TestRetry(t *testing.T) {
	for _, x := range []struct {
		p         api.Policy
		s         api.State
		now, cost int
		want      int
		ok        bool
	}{
		{small(), state(5, 0), 5, 10, 0, true},
		{small(), state(9, 0, 5, 1, 7, 2, 9, 3), 9, 4, 0, true},
		{small(), state(9, 0, 5, 1, 7, 2, 9, 3), 9, 5, 96, true},
		{small(), state(9, 0, 5, 1, 7, 2, 9, 3), 9, 6, 98, true},
		{small(), state(9, 0, 5, 1, 7, 2, 9, 3), 9, 7, 98, true},
		{small(), state(9, 0, 5, 1, 7, 2, 9, 3), 9, 8, 100, true},
		{small(), state(9, 0, 5, 1, 7, 2, 9, 3), 9, 10, 100, true},
		{small(), state(9, 0, 5, 1, 7, 2, 9, 3), 105, 5, 0, true},
		{small(), state(9, 0, 5, 1, 7, 2, 9, 3), 105, 6, 2, true},
		{small(), state(9, 0, 5, 1, 7, 2, 9, 3), 3, 5, 96, true},
		{small(), state(9, 0, 5, 1, 7, 2, 9, 3), most, 10, 0, true},
		{small(), state(9, 0, 5, 4, 5, 4), 9, 6, 96, true},
		{small(), state(9, 0, 5, 4, 5, 4), 9, 7, 96, true},
		{small(), state(500, 0, 400, 5, 401, 5), 0, 5, 0, true},
		{small(), state(500, 0, 400, 5, 401, 5), 0, 6, 1, true},
		{small(), state(9, 4, 5, 1, 9, 5), 9, 1, 96, true},
		{small(), state(9, 4, 5, 1, 9, 5), 9, 6, 100, true},
		{small(), state(9, 4, 5, 1, 9, 5), 9, 7, 0, false},
		{small(), state(9, 10), 9, 1, 0, false},
		{small(), state(9, 10), 9, 0, 0, false},
		{small(), state(5, 0), 5, 11, 0, false},
		{small(), state(5, 0, 5, 10), 5, 11, 0, false},
		{small(), state(5, 0), 5, 0, 0, false},
		{small(), state(5, 0, 5, 10), 5, 0, 0, false},
		{small(), state(5, 0), 5, -1, 0, false},
		{small(), state(5, 0, 5, 10), 5, least, 0, false},
		{small(), state(5, 0, 5, 10), 5, most, 0, false},
		{longest(), state(api.MaxTime, 0, api.MaxTime, 1), most, 1, api.MaxPeriod, true},
		{tiniest(), state(5, 0, 5, 1), 5, 1, 1, true},
	} {
		if got, ok := Retry(x.p, x.s, x.now, x.cost); got != x.want || ok != x.ok {
			t.Errorf("Retry(%v, %v, %d, %d): %d, %t, not %d, %t", x.p, x.s, x.now, x.cost, got, ok, x.want, x.ok)
		}
	}
}

// TestWrong is what is told of policies that may not be and of states that are not Right.
func TestWrong(t *testing.T) {
	for _, s := range wrongStates() {
		checkNoughts(t, small(), s, 501, api.Take, 1)
		checkNoughts(t, small(), s, 501, api.Release, 1)
		checkNoughts(t, small(), s, most, 5, 0)
	}
	for _, p := range wrongPolicies() {
		for _, s := range append(wrongStates(), rightStates(small())...) {
			checkNoughts(t, p, s, 501, api.Take, 1)
			checkNoughts(t, p, s, most, api.Release, 1)
		}
	}
}

// told are the states that come out of all calls at s: kept, changed, and as they were.
func told(p api.Policy, s api.State, now int) []api.State {
	l := []api.State{Advance(p, s, now)}
	for kind := range 6 {
		for _, cost := range []int{0, 1, 2, 11} {
			u, _ := Do(p, s, api.Act{Kind: kind, Now: now, Cost: cost})
			l = append(l, u)
		}
	}
	Room(p, s, now)
	Until(p, s, now)
	Retry(p, s, now, 9)
	return l
}

// TestNothingIsKept: neither is an argument changed, with the room behind it, nor does its memory come out again, nor one memory twice.
func TestNothingIsKept(t *testing.T) {
	for count := range 4 {
		for _, now := range []int{9, 10, 105, 106, 107, 999} {
			rows := entries(5, 1, 6, 2, 9, 3, 9, 4)
			before := slices.Clone(rows)
			l := told(small(), api.State{At: 9, Held: 2, Log: rows[:count]}, now)
			want := make([][]api.Entry, len(l))
			for i, s := range l {
				want[i] = slices.Clone(s.Log)
			}
			if !slices.Equal(rows, before) {
				t.Fatalf("%d rows at %d: changed: %v", count, now, rows)
			}
			for i, s := range l {
				if !slices.Equal(s.Log, want[i]) {
					t.Fatalf("%d rows at %d: the Log of answer %d is another one's too: %v, not %v", count, now, i, s.Log, want[i])
				}
				all := s.Log[:cap(s.Log)]
				for j := range all {
					all[j] = api.Entry{T: -7, Cost: -7}
				}
			}
			if !slices.Equal(rows, before) {
				t.Fatalf("%d rows at %d: a Log that came out is the caller's: %v", count, now, rows)
			}
		}
	}
}

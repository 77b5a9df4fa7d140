package limiter

import (
	"slices"
	"testing"

	"tapster/api"
	"tapster/bucket"
	"tapster/counter"
	"tapster/gcra"
	"tapster/window"
)

const (
	most  = 1<<63 - 1
	least = -1 << 63
)

// calls are those of one of the four packages.
type calls struct {
	check   func(p api.Policy) api.Errno
	begin   func(p api.Policy, now int) api.State
	right   func(p api.Policy, s api.State) bool
	advance func(p api.Policy, s api.State, now int) api.State
	room    func(p api.Policy, s api.State, now int) int
	do      func(p api.Policy, s api.State, a api.Act) (api.State, bool)
	until   func(p api.Policy, s api.State, now int) int
	retry   func(p api.Policy, s api.State, now int, cost int) (int, bool)
}

// own are the calls of each Kind's own package.
var own = map[int]calls{
	1: {bucket.Check, bucket.New, bucket.Right, bucket.Advance, bucket.Room, bucket.Do, bucket.Until, bucket.Retry},
	2: {gcra.Check, gcra.New, gcra.Right, gcra.Advance, gcra.Room, gcra.Do, gcra.Until, gcra.Retry},
	3: {window.Check, window.New, window.Right, window.Advance, window.Room, window.Do, window.Until, window.Retry},
	4: {counter.Check, counter.New, counter.Right, counter.Advance, counter.Room, counter.Do, counter.Until, counter.Retry},
}

// small are policies of the four Kinds, in their order, by which 10 are granted in 100.
func small() []api.Policy {
	return []api.Policy{
		{Kind: api.Bucket, Limit: 10, Period: 100, Burst: 10},
		{Kind: api.Gcra, Limit: 10, Period: 100, Burst: 10},
		{Kind: api.Log, Limit: 10, Period: 100, Cap: 3},
		{Kind: api.Count, Limit: 10, Period: 100},
	}
}

// widest have the most of all, tiniest the least of all.
func widest() []api.Policy {
	return []api.Policy{
		{Kind: api.Bucket, Limit: api.MaxLimit, Period: api.MaxPeriod, Burst: api.MaxLimit},
		{Kind: api.Gcra, Limit: api.MaxLimit, Period: api.MaxPeriod, Burst: api.MaxLimit},
		{Kind: api.Log, Limit: api.MaxLimit, Period: api.MaxPeriod, Cap: api.MaxLog},
		{Kind: api.Count, Limit: api.MaxLimit, Period: api.MaxPeriod},
	}
}

func tiniest() []api.Policy {
	return []api.Policy{
		{Kind: api.Bucket, Limit: 1, Period: 1, Burst: 1},
		{Kind: api.Gcra, Limit: 1, Period: 1, Burst: 1},
		{Kind: api.Log, Limit: 1, Period: 1, Cap: 1},
		{Kind: api.Count, Limit: 1, Period: 1},
	}
}

func allPolicies() []api.Policy {
	return slices.Concat(small(), widest(), tiniest())
}

// noKinds are none of the four.
func noKinds() []int {
	return []int{0, 5, 6, -1, -2, -4, 1 << 32, 1<<32 + 1, 1<<62 + 1, least, least + 1, most}
}

// strangePolicies are of no Kind, but for that as they may be.
func strangePolicies() []api.Policy {
	l := []api.Policy{{}}
	for _, p := range small() {
		for _, p.Kind = range noKinds() {
			l = append(l, p)
		}
	}
	return l
}

// wrongPolicies are of one of the four Kinds, but for one field as they may be.
func wrongPolicies() []api.Policy {
	l := []api.Policy{{Kind: api.Bucket}, {Kind: api.Gcra}, {Kind: api.Log}, {Kind: api.Count}}
	for _, p := range small() {
		change := func(by func(*api.Policy)) {
			u := p
			by(&u)
			l = append(l, u)
		}
		for _, n := range []int{least, -1, 0, api.MaxLimit + 1, most} {
			change(func(p *api.Policy) { p.Limit = n })
		}
		for _, n := range []int{least, -1, 0, api.MaxPeriod + 1, most} {
			change(func(p *api.Policy) { p.Period = n })
		}
		for _, n := range []int{least, -1, api.MaxLimit + 1, most} {
			change(func(p *api.Policy) { p.Burst = n })
			change(func(p *api.Policy) { p.Cap = n })
		}
		// What one Kind has to have, another one may not have.
		change(func(p *api.Policy) { p.Burst = 10 - p.Burst })
		change(func(p *api.Policy) { p.Cap = 3 - p.Cap })
		change(func(p *api.Policy) { p.Burst, p.Cap = 10, 3 })
	}
	return l
}

// entries are pairs of a T and a Cost.
func entries(pairs ...int) []api.Entry {
	var l []api.Entry
	for pair := range slices.Chunk(pairs, 2) {
		l = append(l, api.Entry{T: pair[0], Cost: pair[1]})
	}
	return l
}

// allStates are Right by some small policies and not by others, or by none.
func allStates() []api.State {
	var l []api.State
	for _, at := range []int{0, 9, 199, 200, api.MaxTime} {
		for _, held := range []int{0, 1, 10} {
			for _, level := range []int{0, 1, 7, 9, 10, 100, 550, 900, 1000} {
				l = append(l, api.State{At: at, Level: level, Held: held})
			}
			for _, pairs := range [][]int{{at, 1}, {at - 9, 9}, {at - 99, 3, at, 6}, {0, 1, 5, 2, 9, 3}, {0, 1, 0, 1, 0, 1, 0, 1}, {0, 11}, {at + 1, 1}, {0, -1}} {
				l = append(l, api.State{At: at, Held: held, Log: entries(pairs...)})
			}
		}
	}
	for _, n := range []int{least, -1, api.MaxTime + 1, most} {
		l = append(l, api.State{At: n}, api.State{At: 9, Held: n}, api.State{At: 9, Level: n}, api.State{At: 9, Held: n, Level: n}, api.State{At: 9, Log: entries(n, 1)}, api.State{At: 9, Log: entries(9, n)})
	}
	return append(l, api.State{At: 9, Level: 1001}, api.State{At: 9, Held: 11}, api.State{At: 9, Log: []api.Entry{}}, api.State{At: 9, Level: 5, Log: entries(9, 5)})
}

func same(a, b api.State) bool {
	return a.At == b.At && a.Level == b.Level && a.Held == b.Held && slices.Equal(a.Log, b.Log)
}

// checkNoughts holds what is told of a state that is not Right.
func checkNoughts(t *testing.T, p api.Policy, s api.State, now int, a api.Act) {
	t.Helper()
	if Right(p, s) {
		t.Fatalf("Right(%v, %v)", p, s)
	}
	if got := Advance(p, s, now); !same(got, api.State{}) {
		t.Fatalf("Advance(%v, %v, %d): %v", p, s, now, got)
	}
	if got := Room(p, s, now); got != 0 {
		t.Fatalf("Room(%v, %v, %d): %d", p, s, now, got)
	}
	if got, ok := Do(p, s, a); ok || !same(got, api.State{}) {
		t.Fatalf("Do(%v, %v, %v): %v, %t", p, s, a, got, ok)
	}
	if got := Until(p, s, now); got != -1 {
		t.Fatalf("Until(%v, %v, %d): %d", p, s, now, got)
	}
	if got, ok := Retry(p, s, now, a.Cost); got != 0 || ok {
		t.Fatalf("Retry(%v, %v, %d, %d): %d, %t", p, s, now, a.Cost, got, ok)
	}
	if Fresh(p, s, now) {
		t.Fatalf("Fresh(%v, %v, %d)", p, s, now)
	}
}

// checkStrange holds what is told of a policy that may not be.
func checkStrange(t *testing.T, p api.Policy, s api.State, now int, a api.Act) {
	t.Helper()
	if got := Check(p); got != api.ErrArg {
		t.Fatalf("Check(%v): %d", p, got)
	}
	if got := New(p, now); !same(got, api.State{}) {
		t.Fatalf("New(%v, %d): %v", p, now, got)
	}
	if got := Most(p); got != 0 {
		t.Fatalf("Most(%v): %d", p, got)
	}
	checkNoughts(t, p, s, now, a)
	if got, l := Run(p, s, a, a); !same(got, api.State{}) || !slices.Equal(l, []bool{false, false}) {
		t.Fatalf("Run(%v, %v, %v twice): %v, %v", p, s, a, got, l)
	}
}

func TestExample(t *testing.T) {
	if Check(api.Policy{}) != api.ErrArg || Most(api.Policy{}) != 0 {
		t.Fatal(Check(api.Policy{}), Most(api.Policy{}))
	}
	if got := Most(api.Policy{Kind: api.Log, Limit: 5, Period: 1000, Cap: 9}); got != 5 {
		t.Fatal(got)
	}
}

func TestCheck(t *testing.T) {
	for _, p := range allPolicies() {
		for _, p.Open = range []bool{false, true} {
			if got := Check(p); got != api.OK {
				t.Errorf("Check(%v): %d", p, got)
			}
		}
	}
	for _, p := range slices.Concat(wrongPolicies(), strangePolicies()) {
		for _, p.Open = range []bool{false, true} {
			if got := Check(p); got != api.ErrArg {
				t.Errorf("Check(%v): %d", p, got)
			}
		}
	}
}

// TestKinds: 2 are held and 8 taken of what has room for 10, at 30; what is told then is by each Kind another thing.
func TestKinds(t *testing.T) {
	for i, x := range []struct {
		fresh, held, taken, later api.State
		rooms                     [6]int
		until, retry              int
	}{
		{api.State{At: 30, Level: 1000}, api.State{At: 30, Level: 800, Held: 2}, api.State{At: 30, Held: 2}, api.State{At: 70, Level: 400, Held: 2}, [6]int{0, 0, 2, 6, 7, 8}, 100, 50},
		{api.State{At: 30}, api.State{At: 30, Level: 200, Held: 2}, api.State{At: 30, Level: 1000, Held: 2}, api.State{At: 70, Level: 600, Held: 2}, [6]int{0, 0, 2, 6, 7, 8}, 100, 50},
		{api.State{At: 30}, api.State{At: 30, Held: 2}, api.State{At: 30, Held: 2, Log: entries(30, 8)}, api.State{At: 70, Held: 2, Log: entries(30, 8)}, [6]int{0, 0, 0, 0, 0, 8}, 100, 100},
		{api.State{At: 30}, api.State{At: 30, Held: 2}, api.State{At: 30, Level: 8, Held: 2}, api.State{At: 70, Level: 8, Held: 2}, [6]int{0, 0, 0, 0, 8, 8}, 70, 70},
	} {
		p := small()[i]
		fresh := New(p, 30)
		held, hold := Do(p, fresh, api.Act{Kind: api.Hold, Now: 30, Cost: 2})
		taken, take := Do(p, held, api.Act{Kind: api.Take, Now: 30, Cost: 8})
		if !hold || !take || !same(fresh, x.fresh) || !same(held, x.held) || !same(taken, x.taken) || !Right(p, taken) {
			t.Errorf("%v: %v, %v, %t, %v, %t", p, fresh, held, hold, taken, take)
		}
		if got := Advance(p, taken, 70); !same(got, x.later) {
			t.Errorf("%v: %v at 70, not %v", p, got, x.later)
		}
		for j, now := range []int{-7, 39, 59, 99, 100, 130} {
			if got := Room(p, taken, now); got != x.rooms[j] {
				t.Errorf("%v: Room %d at %d, not %d", p, got, now, x.rooms[j])
			}
		}
		if got := Until(p, taken, 30); got != -1 {
			t.Errorf("%v: Until %d, though some is held", p, got)
		}
		if got, ok := Retry(p, taken, 30, 5); got != x.retry || !ok {
			t.Errorf("%v: Retry %d, %t, not %d", p, got, ok, x.retry)
		}
		if got, ok := Retry(p, taken, 30, 9); got != 0 || ok {
			t.Errorf("%v: Retry %d, %t of more than there ever is", p, got, ok)
		}
		if got, ok := Do(p, taken, api.Act{Kind: api.Take, Now: 30, Cost: 1}); ok || !same(got, x.taken) {
			t.Errorf("%v: Take of 1 more: %v, %t", p, got, ok)
		}
		all, ok := Do(p, taken, api.Act{Kind: api.Commit, Now: 30, Cost: 2})
		if got := Until(p, all, 30); got != x.until || !ok {
			t.Errorf("%v: Until %d, not %d: %v, %t", p, got, x.until, all, ok)
		}
	}
}

func TestNew(t *testing.T) {
	for _, x := range [][2]int{{7, 7}, {0, 0}, {-1, 0}, {least, 0}, {api.MaxTime - 1, api.MaxTime - 1}, {api.MaxTime, api.MaxTime}, {api.MaxTime + 1, api.MaxTime}, {most, api.MaxTime}} {
		for _, p := range allPolicies() {
			want := api.State{At: x[1]}
			if p.Kind == api.Bucket {
				want.Level = p.Burst * p.Period
			}
			if got := New(p, x[0]); !same(got, want) || !Right(p, got) || !Fresh(p, got, x[0]) || Room(p, got, x[0]) != Most(p) {
				t.Errorf("New(%v, %d): %v", p, x[0], got)
			}
		}
		for _, p := range slices.Concat(wrongPolicies(), strangePolicies()) {
			if got := New(p, x[0]); !same(got, api.State{}) {
				t.Errorf("New(%v, %d): %v", p, x[0], got)
			}
		}
	}
}

// TestOneByAnother: a state of one Kind is Right by another, or not, as that one's words are.
func TestOneByAnother(t *testing.T) {
	for _, x := range []struct {
		name  string
		s     api.State
		right [4]bool
	}{
		{"noughts", api.State{}, [4]bool{true, true, true, true}},
		{"a full bucket", api.State{At: 9, Level: 1000}, [4]bool{true, true, false, false}},
		{"of a bucket 2 are held", api.State{At: 9, Level: 100, Held: 2}, [4]bool{true, false, false, false}},
		{"of a debt 2 are held", api.State{At: 9, Level: 900, Held: 2}, [4]bool{false, true, false, false}},
		{"of either 2 are held", api.State{At: 9, Level: 500, Held: 2}, [4]bool{true, true, false, false}},
		{"a log", api.State{At: 9, Log: entries(9, 1)}, [4]bool{false, false, true, false}},
		{"a log, 2 are held", api.State{At: 9, Held: 2, Log: entries(5, 1, 9, 7)}, [4]bool{false, false, true, false}},
		{"2 are counted", api.State{At: 9, Level: 2}, [4]bool{true, true, false, true}},
		{"2 are counted, 8 held", api.State{At: 9, Level: 2, Held: 8}, [4]bool{true, false, false, true}},
		{"2 are counted, 9 held", api.State{At: 9, Level: 2, Held: 9}, [4]bool{true, false, false, false}},
		{"all is held", api.State{At: 9, Held: 10}, [4]bool{true, false, true, true}},
		{"too much is held", api.State{At: 9, Held: 11}, [4]bool{}},
		{"a log that counts", api.State{At: 9, Level: 2, Log: entries(9, 2)}, [4]bool{}},
		{"too late", api.State{At: api.MaxTime + 1}, [4]bool{}},
		{"too early", api.State{At: -1}, [4]bool{}},
	} {
		for i, p := range small() {
			if got := Right(p, x.s); got != x.right[i] {
				t.Errorf("%s: Right(%v, %v): %t", x.name, p, x.s, got)
			}
			if !x.right[i] {
				checkNoughts(t, p, x.s, 20, api.Act{Kind: api.Take, Now: 20, Cost: 1})
				checkNoughts(t, p, x.s, 20, api.Act{Kind: api.Release, Now: 20, Cost: 1})
			}
		}
	}
}

// TestNoKind: what is told of a Kind that is none of the four, of whatever state.
func TestNoKind(t *testing.T) {
	for _, p := range strangePolicies() {
		for _, s := range allStates() {
			for _, now := range []int{least, 0, 20, api.MaxTime + 1} {
				checkStrange(t, p, s, now, api.Act{Kind: api.Take, Now: now, Cost: 1})
				checkStrange(t, p, s, now, api.Act{Kind: api.Release, Now: now, Cost: 1})
				checkStrange(t, p, s, now, api.Act{Kind: 5, Now: now, Cost: 0})
			}
		}
	}
}

// TestWrongPolicy: what is told of one of the four Kinds, where the policy may not be.
func TestWrongPolicy(t *testing.T) {
	for _, p := range wrongPolicies() {
		for _, s := range allStates() {
			checkStrange(t, p, s, 20, api.Act{Kind: api.Take, Now: 20, Cost: 1})
			checkStrange(t, p, s, 20, api.Act{Kind: api.Release, Now: 20, Cost: 1})
		}
	}
}

func TestMost(t *testing.T) {
	for _, x := range []struct {
		p    api.Policy
		want int
	}{
		{api.Policy{Kind: api.Bucket, Limit: 10, Period: 1000, Burst: 5}, 5},
		{api.Policy{Kind: api.Bucket, Limit: 5, Period: 1000, Burst: 10}, 10},
		{api.Policy{Kind: api.Bucket, Limit: api.MaxLimit, Period: api.MaxPeriod, Burst: 1}, 1},
		{api.Policy{Kind: api.Bucket, Limit: 1, Period: 1, Burst: api.MaxLimit}, api.MaxLimit},
		{api.Policy{Kind: api.Bucket, Limit: 10, Period: 1000, Burst: 0}, 0},
		{api.Policy{Kind: api.Bucket, Limit: 10, Period: 1000, Burst: -1}, 0},
		{api.Policy{Kind: api.Bucket, Limit: 10, Period: 1000, Burst: api.MaxLimit + 1}, 0},
		{api.Policy{Kind: api.Bucket, Limit: 0, Period: 1000, Burst: 5}, 0},
		{api.Policy{Kind: api.Bucket, Limit: 10, Period: 1000, Burst: 5, Cap: 1}, 0},
		{api.Policy{Kind: api.Gcra, Limit: 10, Period: 1000, Burst: 5}, 5},
		{api.Policy{Kind: api.Gcra, Limit: 5, Period: 1000, Burst: 10, Open: true}, 10},
		{api.Policy{Kind: api.Gcra, Limit: api.MaxLimit, Period: api.MaxPeriod, Burst: 1}, 1},
		{api.Policy{Kind: api.Gcra, Limit: 1, Period: 1, Burst: api.MaxLimit}, api.MaxLimit},
		{api.Policy{Kind: api.Gcra, Limit: 10, Period: 1000, Burst: 0}, 0},
		{api.Policy{Kind: api.Gcra, Limit: 10, Period: 1000, Burst: least}, 0},
		{api.Policy{Kind: api.Gcra, Limit: 10, Period: 1000, Burst: api.MaxLimit + 1}, 0},
		{api.Policy{Kind: api.Gcra, Limit: 10, Period: 0, Burst: 5}, 0},
		{api.Policy{Kind: api.Log, Limit: 5, Period: 1000, Cap: 9}, 5},
		{api.Policy{Kind: api.Log, Limit: 1, Period: api.MaxPeriod, Cap: api.MaxLog}, 1},
		{api.Policy{Kind: api.Log, Limit: api.MaxLimit, Period: 1, Cap: 1}, api.MaxLimit},
		{api.Policy{Kind: api.Log, Limit: 0, Period: 1000, Cap: 9}, 0},
		{api.Policy{Kind: api.Log, Limit: -1, Period: 1000, Cap: 9}, 0},
		{api.Policy{Kind: api.Log, Limit: api.MaxLimit + 1, Period: 1000, Cap: 9}, 0},
		{api.Policy{Kind: api.Log, Limit: 5, Period: 1000, Cap: 0}, 0},
		{api.Policy{Kind: api.Log, Limit: 5, Period: 1000, Cap: 9, Burst: 1}, 0},
		{api.Policy{Kind: api.Count, Limit: 5, Period: 1000}, 5},
		{api.Policy{Kind: api.Count, Limit: 1, Period: api.MaxPeriod}, 1},
		{api.Policy{Kind: api.Count, Limit: api.MaxLimit, Period: 1, Open: true}, api.MaxLimit},
		{api.Policy{Kind: api.Count, Limit: 0, Period: 1000}, 0},
		{api.Policy{Kind: api.Count, Limit: most, Period: 1000}, 0},
		{api.Policy{Kind: api.Count, Limit: api.MaxLimit + 1, Period: 1000}, 0},
		{api.Policy{Kind: api.Count, Limit: 5, Period: 1000, Burst: 5}, 0},
		{api.Policy{Kind: 0, Limit: 10, Period: 1000, Burst: 5}, 0},
		{api.Policy{Kind: 5, Limit: 10, Period: 1000, Burst: 5}, 0},
		{api.Policy{Kind: 5, Limit: 10, Period: 1000}, 0},
		{api.Policy{Kind: -1, Limit: 10, Period: 1000}, 0},
		{api.Policy{Kind: least, Limit: 10, Period: 1000, Burst: 5}, 0},
		{api.Policy{Kind: most, Limit: 10, Period: 1000, Cap: 9}, 0},
	} {
		if got := Most(x.p); got != x.want {
			t.Errorf("Most(%v): %d, not %d", x.p, got, x.want)
		}
		if got := Room(x.p, New(x.p, 9), 9); got != x.want {
			t.Errorf("Room(%v) of a new one: %d, not %d", x.p, got, x.want)
		}
	}
}

// TestFresh: as new are a new state, what was let go, and one of which 2 were taken at 30, when free begins, and not a nanosecond before.
func TestFresh(t *testing.T) {
	for i, free := range []int{50, 50, 130, 100} {
		p := small()[i]
		fresh := New(p, 30)
		taken, _ := Do(p, fresh, api.Act{Kind: api.Take, Now: 30, Cost: 2})
		held, _ := Do(p, fresh, api.Act{Kind: api.Hold, Now: 30, Cost: 2})
		released, _ := Do(p, held, api.Act{Kind: api.Release, Now: 30, Cost: 2})
		committed, _ := Do(p, held, api.Act{Kind: api.Commit, Now: 30, Cost: 2})
		for _, x := range []struct {
			name string
			s    api.State
			now  int
			want bool
		}{
			{"new", fresh, 30, true},
			{"new, later", fresh, 31, true},
			{"new, the clock goes back", fresh, 29, true},
			{"new, now the least", fresh, least, true},
			{"new, now the greatest", fresh, most, true},
			{"taken", taken, 30, false},
			{"taken, the clock goes back", taken, -1, false},
			{"taken, one ahead", taken, free - 1, false},
			{"taken, just then", taken, free, true},
			{"taken, one later", taken, free + 1, true},
			{"taken, now the greatest", taken, most, true},
			{"held", held, 30, false},
			{"held, later", held, free, false},
			{"held, now the greatest", held, most, false},
			{"released", released, 30, true},
			{"committed", committed, 30, false},
			{"committed, one ahead", committed, free - 1, false},
			{"committed, just then", committed, free, true},
			{"not Right, of At", api.State{At: -1, Level: fresh.Level}, 30, false},
			{"not Right, of Held", api.State{At: 30, Level: fresh.Level, Held: -1}, 30, false},
			{"not Right, of Level", api.State{At: 30, Level: -1}, most, false},
			{"not Right, of Log", api.State{At: 30, Level: fresh.Level, Log: entries(31, 1)}, most, false},
		} {
			if got := Fresh(p, x.s, x.now); got != x.want {
				t.Errorf("%v: %s: Fresh(%v, %d): %t", p, x.name, x.s, x.now, got)
			}
		}
	}
	for _, p := range slices.Concat(wrongPolicies(), strangePolicies()) {
		if Fresh(p, api.State{}, 0) || Fresh(p, api.State{Level: 1000}, most) {
			t.Errorf("Fresh by %v", p)
		}
	}
}

func take(now, cost int) api.Act { return api.Act{Kind: api.Take, Now: now, Cost: cost} }

func hold(now, cost int) api.Act { return api.Act{Kind: api.Hold, Now: now, Cost: cost} }

func release(now, cost int) api.Act { return api.Act{Kind: api.Release, Now: now, Cost: cost} }

func commit(now, cost int) api.Act { return api.Act{Kind: api.Commit, Now: now, Cost: cost} }

// TestRun goes from a new state at 9 on.
func TestRun(t *testing.T) {
	for _, x := range []struct {
		name string
		l    []api.Act
		told []bool
		want [4]api.State
	}{
		{"no act", nil, nil, [4]api.State{{At: 9, Level: 1000}, {At: 9}, {At: 9}, {At: 9}}},
		{"one act", []api.Act{take(19, 3)}, []bool{true},
			[4]api.State{{At: 19, Level: 700}, {At: 19, Level: 300}, {At: 19, Log: entries(19, 3)}, {At: 19, Level: 3}}},
		{"one that is not done", []api.Act{take(19, 11)}, []bool{false},
			[4]api.State{{At: 9, Level: 1000}, {At: 9}, {At: 9}, {At: 9}}},
		{"one behind the other", []api.Act{hold(9, 4), take(9, 6), release(9, 1), commit(9, 2), take(9, 1)}, []bool{true, true, true, true, true},
			[4]api.State{{At: 9, Held: 1}, {At: 9, Level: 1000, Held: 1}, {At: 9, Held: 1, Log: entries(9, 9)}, {At: 9, Level: 9, Held: 1}}},
		{"some are not done", []api.Act{take(9, 7), take(9, 4), release(9, 1), hold(5, 3), take(9, 1), commit(9, 4), commit(9, 1)}, []bool{true, false, false, true, false, false, true},
			[4]api.State{{At: 9, Held: 2}, {At: 9, Level: 1000, Held: 2}, {At: 9, Held: 2, Log: entries(9, 8)}, {At: 9, Level: 8, Held: 2}}},
		{"the last one is not done", []api.Act{take(9, 7), take(9, 4)}, []bool{true, false},
			[4]api.State{{At: 9, Level: 300}, {At: 9, Level: 700}, {At: 9, Log: entries(9, 7)}, {At: 9, Level: 7}}},
		{"kinds that are none", []api.Act{{Kind: 0, Now: 9, Cost: 1}, {Kind: 5, Now: 9, Cost: 1}, take(9, 2), {Kind: -1, Now: 99, Cost: 1}, {Kind: least, Now: 99, Cost: 1}, {Kind: most, Now: 99, Cost: 1}}, []bool{false, false, true, false, false, false},
			[4]api.State{{At: 9, Level: 800}, {At: 9, Level: 200}, {At: 9, Log: entries(9, 2)}, {At: 9, Level: 2}}},
		{"costs that may not be", []api.Act{take(9, 0), take(9, -1), hold(9, least), take(9, most), take(9, 2), release(9, 0), commit(9, -1)}, []bool{false, false, false, false, true, false, false},
			[4]api.State{{At: 9, Level: 800}, {At: 9, Level: 200}, {At: 9, Log: entries(9, 2)}, {At: 9, Level: 2}}},
		{"later and later", []api.Act{take(9, 8), take(59, 1), take(109, 9), take(119, 3)}, []bool{true, true, true, false},
			[4]api.State{{At: 109, Level: 100}, {At: 109, Level: 900}, {At: 109, Log: entries(59, 1, 109, 9)}, {At: 109, Level: 9}}},
		{"the clock goes back", []api.Act{take(150, 8), take(-9, 2), take(least, 1), take(9, 1)}, []bool{true, true, false, false},
			[4]api.State{{At: 150}, {At: 150, Level: 1000}, {At: 150, Log: entries(150, 10)}, {At: 150, Level: 10}}},
		{"at the end of time", []api.Act{take(api.MaxTime+1, 8), take(most, 2), take(most, 1)}, []bool{true, true, false},
			[4]api.State{{At: api.MaxTime}, {At: api.MaxTime, Level: 1000}, {At: api.MaxTime, Log: entries(api.MaxTime, 10)}, {At: api.MaxTime, Level: 10}}},
	} {
		for i, p := range small() {
			if got, told := Run(p, New(p, 9), x.l...); !same(got, x.want[i]) || !slices.Equal(told, x.told) {
				t.Errorf("%v: %s: %v, %v, not %v, %v", p, x.name, got, told, x.want[i], x.told)
			}
		}
	}
}

// TestRunOfWrong is Run of states that are not Right: each act tells what Do tells, the first of noughts, those behind it of these; no act changes nothing.
func TestRunOfWrong(t *testing.T) {
	for _, p := range small() {
		for _, s := range allStates() {
			if Right(p, s) {
				continue
			}
			if got, told := Run(p, s); !same(got, s) || len(told) != 0 {
				t.Errorf("Run(%v, %v): %v, %v", p, s, got, told)
			}
			if got, told := Run(p, s, take(150, 1)); !same(got, api.State{}) || !slices.Equal(told, []bool{false}) {
				t.Errorf("Run(%v, %v) of one: %v, %v", p, s, got, told)
			}
			want, _ := Do(p, api.State{}, take(150, 1))
			if got, told := Run(p, s, release(150, 1), take(150, 1)); !same(got, want) || !slices.Equal(told, []bool{false, true}) {
				t.Errorf("Run(%v, %v) of two: %v, %v", p, s, got, told)
			}
		}
	}
	for _, p := range slices.Concat(wrongPolicies(), strangePolicies()) {
		for _, s := range []api.State{{}, {At: 9, Level: 1000}, {At: -9, Level: 3, Held: 5, Log: entries(9, 1, 5, 7)}} {
			if got, told := Run(p, s); !same(got, s) || len(told) != 0 {
				t.Errorf("Run(%v, %v): %v, %v", p, s, got, told)
			}
			if got, told := Run(p, s, take(150, 1), release(150, 1), take(200, 1)); !same(got, api.State{}) || !slices.Equal(told, make([]bool, 3)) {
				t.Errorf("Run(%v, %v) of three: %v, %v", p, s, got, told)
			}
		}
	}
}

// out is what comes out of one call of each that tells lists.
type out struct {
	logs [][]api.Entry
	told [][]bool
}

func (o *out) state(s api.State) { o.logs = append(o.logs, s.Log) }

func (o *out) run(s api.State, told []bool) {
	o.state(s)
	o.told = append(o.told, told)
}

func everyList(p api.Policy, s api.State, now int, l []api.Act) *out {
	o := &out{}
	o.state(New(p, now))
	o.state(Advance(p, s, now))
	for _, a := range l {
		u, _ := Do(p, s, a)
		o.state(u)
	}
	for n := range len(l) + 1 {
		o.run(Run(p, s, l[:n]...))
		o.run(Run(p, s, l[:n]...))
	}
	Room(p, s, now)
	Until(p, s, now)
	Retry(p, s, now, 1)
	Fresh(p, s, now)
	return o
}

// TestNothingIsKept: neither is an argument changed, with the room behind it, nor does its memory come out again, nor one memory twice.
func TestNothingIsKept(t *testing.T) {
	for _, p := range append(small(), api.Policy{}, api.Policy{Kind: api.Log}) {
		for count := range 4 {
			for _, now := range []int{9, 10, 105, 106, 107, 999} {
				rows := entries(5, 1, 6, 2, 9, 3, 9, 4)
				acts := []api.Act{take(now, 99), {Kind: 7, Now: now}, take(now, 1), release(now, 2), hold(now, 1), commit(now, 1), take(now, 1), commit(now, 5)}
				wantRows, wantActs := slices.Clone(rows), slices.Clone(acts)
				o := everyList(p, api.State{At: 9, Held: 2, Log: rows[:count]}, now, acts[:6])
				again := everyList(p, api.State{At: 9, Held: 2, Log: slices.Clone(rows[:count])}, now, slices.Clone(acts[:6]))
				for i, l := range o.logs {
					if !slices.Equal(l, again.logs[i]) {
						t.Fatalf("%v, %d rows at %d: the Log of answer %d is another one's too: %v, not %v", p, count, now, i, l, again.logs[i])
					}
					all := l[:cap(l)]
					for j := range all {
						all[j] = api.Entry{T: -7, Cost: -7}
					}
				}
				for i, l := range o.told {
					if !slices.Equal(l, again.told[i]) {
						t.Fatalf("%v, %d rows at %d: what answer %d told is another one's too: %v, not %v", p, count, now, i, l, again.told[i])
					}
					all := l[:cap(l)]
					for j := range all {
						all[j] = !all[j]
					}
				}
				if !slices.Equal(rows, wantRows) || !slices.Equal(acts, wantActs) {
					t.Fatalf("%v, %d rows at %d: an argument was changed: %v, %v", p, count, now, rows, acts)
				}
			}
		}
	}
}

package machine

import (
	"strconv"
	"strings"
	"testing"

	"tapster/api"
)

// asks are the names of the commands that ask for costs, and what they tell of what is granted first.
func asks() map[string]string {
	return map[string]string{"TAKE": "+OK", "PEEK": "+OK", "RESERVE 1000": ":1"}
}

// TestPolicy: versions come one behind the other, one for each policy that was not there already.
func TestPolicy(t *testing.T) {
	m := New(3, 9, 0)
	checkSteps(t, m,
		step{0, "POLICY p 1 5 100 5 0 0", ":1"},
		step{0, "POLICY p 1 5 100 5 0 0", ":1"},
		step{0, "POLICY q 1 5 100 5 0 0", ":2"},
		step{0, "POLICY p 1 5 100 5 0 1", ":3"},
		step{0, "POLICY p 1 5 100 5 0 0", ":4"},
		step{0, "POLICY p 2 5 100 5 0 0", ":5"},
		step{0, "POLICY p 3 5 100 0 5 0", ":6"},
		step{0, "POLICY p 4 5 100 0 0 0", ":7"},
		step{0, "POLICY p 4 6 100 0 0 0", ":8"},
		step{0, "POLICY p 4 6 101 0 0 0", ":9"},
		step{0, "POLICY q 1 5 100 5 0 0", ":2"},
		step{0, "POLICY P 4 6 101 0 0 0", ":10"},
		step{0, "DROP p", ":1"},
		step{0, "POLICY p 4 6 101 0 0 0", ":11"},
		step{0, "POLICY p 1 5 100 6 0 0", ":12"},
		step{0, "POLICY p 1 5 100 0 0 0", "-ERR 2"},
		step{0, "POLICY p 1 5 100 6 0 0", ":12"})
	checkStats(t, m, 0, 0, 3, 0, 0, 0, 0, 0, 0)
	p, version, there := m.book.Get("p")
	if want := (api.Policy{Kind: api.Bucket, Limit: 5, Period: 100, Burst: 6}); p != want || version != 12 || !there {
		t.Fatal(p, version, there)
	}
}

// TestManyPolicies: MaxNames, and one more.
func TestManyPolicies(t *testing.T) {
	m := New(1, 1, 1)
	for i := range 100 {
		checkDo(t, m, 0, "POLICY p"+strconv.Itoa(i)+" 4 5 100 0 0 0", ":"+strconv.Itoa(i+1))
	}
	before := m.Copy()
	checkDo(t, m, 0, "POLICY p100 4 5 100 0 0 0", "-ERR 5")
	checkDo(t, m, 0, "POLICY p0 4 5 100 0 0 0", ":1")
	checkSame(t, "full", m, before)
	checkTrial(t, m, 0, "TAKE - p100:0:1", "-ERR 4")
	checkSteps(t, m,
		step{0, "POLICY p0 4 6 100 0 0 0", ":101"},
		step{0, "POLICY p101 4 5 100 0 0 0", "-ERR 5"},
		step{0, "DROP p7", ":1"},
		step{0, "POLICY p101 4 5 100 0 0 0", ":102"},
		step{0, "POLICY p7 4 5 100 0 0 0", "-ERR 5"})
	checkStats(t, m, 0, 0, 100, 0, 0, 0, 0, 0, 0)
}

// TestDrop: what is there is dropped once; what was laid again begins with keys that are new, whether it is another policy or the same.
func TestDrop(t *testing.T) {
	for _, again := range []string{"POLICY p 4 5 100 0 0 0", "POLICY p 4 6 100 0 0 0", "POLICY p 3 5 100 0 5 0"} {
		m := New(2, 9, 0)
		checkSteps(t, m,
			step{0, "DROP p", ":0"},
			step{0, "POLICY p 4 5 100 0 0 0", ":1"},
			step{0, "POLICY q 4 1 100 0 0 0", ":2"},
			step{0, "DROP r", ":0"},
			step{0, "TAKE x p:1:5", "+OK"},
			step{0, "DROP p", ":1"},
			step{0, "DROP p", ":0"})
		for name := range asks() {
			checkTrial(t, m, 0, name+" x p:1:1", "-ERR 4")
			checkTrial(t, m, 0, name+" x q:1:1 p:1:1", "-ERR 4")
			if l := m.Touches(args(name + " x q:1:1 p:1:1")...); len(l) != 0 {
				t.Fatal(name, l)
			}
		}
		checkSteps(t, m,
			step{0, "TAKE x q:1:1", "+OK"},
			step{0, again, ":3"},
			step{0, "TAKE x p:1:5", "+OK"},
			step{0, "TAKE x q:1:1", "-DENIED 100"})
		// What was taken by the one that was dropped is still known, of a key of its own.
		checkStats(t, m, 0, 0, 2, 3, 0, 0, 3, 1, 0)
	}
}

// TestLaidAnew: another policy by that name begins with keys that are new, too.
func TestLaidAnew(t *testing.T) {
	m := New(2, 9, 0)
	checkSteps(t, m,
		step{0, "POLICY p 4 5 100 0 0 0", ":1"},
		step{0, "TAKE x p:1:5", "+OK"},
		step{0, "POLICY p 4 5 100 0 0 0", ":1"},
		step{0, "TAKE x p:1:1", "-DENIED 100"},
		step{0, "POLICY p 4 6 100 0 0 0", ":2"},
		step{0, "TAKE x p:1:5", "+OK"},
		step{0, "TAKE x p:1:2", "-DENIED 100"},
		step{0, "POLICY p 4 5 100 0 0 0", ":3"},
		step{0, "TAKE x p:1:5", "+OK"},
		step{0, "TAKE x p:1:1", "-DENIED 100"})
	checkStats(t, m, 0, 0, 1, 3, 0, 0, 3, 3, 0)
}

// TestHeldByDropped: what is held by a policy that was dropped, or laid anew, is held on, and ends as ever.
func TestHeldByDropped(t *testing.T) {
	for _, change := range []string{"DROP p", "POLICY p 4 9 100 0 0 0"} {
		m := New(2, 9, 0)
		checkSteps(t, m,
			step{0, "POLICY p 4 5 100 0 0 0", ":1"},
			step{0, "RESERVE 50 x p:1:4", ":1"})
		touched := m.Touches("COMMIT", "1")
		m.Do(0, args(change)...)
		if l := m.Touches("COMMIT", "1"); len(l) != 1 || len(touched) != 1 || l[0] != touched[0] {
			t.Fatal(l, touched)
		}
		p := api.Policy{Kind: api.Count, Limit: 5, Period: 100}
		check := func(m *Machine, level, held int) {
			t.Helper()
			if s := m.store.Look(keyOf("p", 1, "x"), p, m.Now()); s.Level != level || s.Held != held {
				t.Fatal(s)
			}
		}
		check(m, 0, 4)
		a := m.Copy()
		checkDo(t, a, 0, "COMMIT 1 3", "+OK")
		check(a, 3, 0)
		checkDo(t, a, 0, "COMMIT 1 3", "-ERR 4")
		a = m.Copy()
		checkDo(t, a, 0, "CANCEL 1", "+OK")
		check(a, 0, 0)
		a = m.Copy()
		checkStats(t, a, 50, 50, len(m.book.Names()), 0, 0, 0, 1, 0, 0)
		check(a, 0, 0)
		checkDo(t, a, 50, "CANCEL 1", "-ERR 4")
	}
}

// TestByKinds: what each of the four tells, of a cost that has room, of one that has it later, and of one that never has.
func TestByKinds(t *testing.T) {
	for name, granted := range asks() {
		m := New(3, 9, 0)
		checkSteps(t, m, limited()...)
		for _, p := range []string{"b", "g", "l", "c"} {
			checkTrial(t, m, 7, name+" x "+p+":1:5", granted)
			checkTrial(t, m, 7, name+" x "+p+":1:6", "-DENIED -1")
			checkTrial(t, m, 7, name+" x "+p+":1:1048576", "-DENIED -1")
			checkDo(t, m, 7, "TAKE x "+p+":1:3", "+OK")
			checkTrial(t, m, 7, name+" x "+p+":1:2", granted)
			checkTrial(t, m, 7, name+" x "+p+":1:6", "-DENIED -1")
		}
		for _, x := range []step{
			{7, "b:1:3", "20"}, {7, "b:1:4", "40"}, {7, "b:1:5", "60"}, {10, "b:1:5", "57"}, {66, "b:1:5", "1"},
			{7, "g:1:3", "20"}, {7, "g:1:4", "40"}, {7, "g:1:5", "60"}, {66, "g:1:5", "1"},
			{7, "l:1:3", "100"}, {7, "l:1:5", "100"}, {106, "l:1:5", "1"},
			{7, "c:1:3", "93"}, {7, "c:1:5", "93"}, {99, "c:1:3", "1"},
		} {
			checkTrial(t, m, x.now, name+" x "+x.line, "-DENIED "+x.want)
		}
		for _, x := range []step{{27, "b:1:3", ""}, {67, "b:1:5", ""}, {27, "g:1:3", ""}, {67, "g:1:5", ""}, {107, "l:1:5", ""}, {100, "c:1:5", ""}} {
			checkTrial(t, m, x.now, name+" x "+x.line, granted)
		}
	}
}

// TestNeverByHolds: what is held may last for ever, as far as anybody knows; what is held makes Never of what else would come.
func TestNeverByHolds(t *testing.T) {
	for _, p := range []string{"b", "g", "l", "c"} {
		m := New(3, 9, 0)
		checkSteps(t, m, limited()...)
		checkDo(t, m, 0, "RESERVE 500 x "+p+":1:2", ":1")
		for name := range asks() {
			checkTrial(t, m, 0, name+" x "+p+":1:4", "-DENIED -1")
		}
		checkTrial(t, m, 0, "TAKE x "+p+":1:3", "+OK")
		checkTrial(t, m, 500, "TAKE x "+p+":1:5", "+OK")
	}
}

// TestWishes: what is told of wishes that may not be: that of the first one, and nothing is changed; what is due stays, too.
func TestWishes(t *testing.T) {
	m := New(4, 9, 0)
	checkSteps(t, m, limited()...)
	checkDo(t, m, 0, "RESERVE 5 x c:1:5", ":1")
	for line, want := range map[string]string{
		" - n:0:1": "4", " x n:1:1": "4", " x b:1:1 n:1:1": "4", " x b:1:1 b:2:1": "2", " - b:1:1": "2", " x/y b:3:1": "2", " x b:8:1": "2",
		" x n:2:1": "4", " x n:1:1 b:2:1": "4", " x b:2:1 n:1:1": "2", " x B:0:1": "4", " x b:1:6 n:0:1": "4",
		" - b:0:1048576 b:0:1": "6", " x/y b:1:1 g:1:1048576 b:2:1 g:1:1": "6", " - b:0:1048576 b:0:1 n:0:1": "6", " - n:0:1 b:0:1048576 b:0:1": "4", " - b:0:1048576 b:1:1 b:0:1": "2", " - b:0:1048576 b:0:1 b:1:1": "6",
	} {
		for name := range asks() {
			for _, now := range []int{0, 5, 6} {
				a, b := m.Copy(), m.Copy()
				checkDo(t, a, now, name+line, "-ERR "+want)
				checkDo(t, b, now, "PING", "+PONG")
				checkSame(t, name+line, a, b)
				if l := a.Touches(args(name + line)...); len(l) != 0 {
					t.Fatalf("%s: %v", name+line, l)
				}
			}
		}
	}
	// Twenty, and one more; parts of which some are too long are wrong at Parse.
	for name, granted := range asks() {
		granted = strings.Replace(granted, ":1", ":2", 1)
		checkTrial(t, m, 0, name+" x/y"+strings.Repeat(" b:1:1 b:2:1 g:0:1 l:0:1", 5), granted)
		checkTrial(t, m, 0, name+" x/y"+strings.Repeat(" b:1:1 b:2:1 g:0:1 l:0:1", 5)+" l:2:1", "-ERR 3")
		checkTrial(t, m, 0, name+" 1/2/3/4/5/6/7/8 b:8:1 b:0:1", granted)
		checkTrial(t, m, 0, name+" 1/2/3/4/5/6/7/8/9 b:8:1 b:0:1", "-ERR 3")
	}
}

// TestAddedUp: what is wished of one key is one cost.
func TestAddedUp(t *testing.T) {
	for name, granted := range asks() {
		m := New(4, 9, 0)
		checkSteps(t, m, limited()...)
		checkTrial(t, m, 0, name+" x c:1:2 c:1:2 c:1:1", granted)
		checkTrial(t, m, 0, name+" x c:1:2 c:1:2 c:1:2", "-DENIED -1")
		checkTrial(t, m, 0, name+" x c:1:5 c:0:5", granted)
		checkDo(t, m, 0, "TAKE x c:1:1 b:1:5 c:1:1", "+OK")
		checkTrial(t, m, 0, name+" x c:1:2 c:1:1", granted)
		checkTrial(t, m, 0, name+" x c:1:2 c:1:2", "-DENIED 100")
	}
}

// TestPaths: each path has keys of its own, and as many parts of it as a wish is deep.
func TestPaths(t *testing.T) {
	m := New(4, 90, 0)
	checkDo(t, m, 0, "POLICY c 4 1 100 0 0 0", ":1")
	checkSteps(t, m,
		step{0, "TAKE - c:0:1", "+OK"},
		step{0, "TAKE x c:0:1", "-DENIED 100"},
		step{0, "TAKE x/y c:0:1", "-DENIED 100"},
		step{0, "TAKE x c:1:1", "+OK"},
		step{0, "TAKE x/y c:1:1", "-DENIED 100"},
		step{0, "TAKE x/y c:2:1", "+OK"},
		step{0, "TAKE y c:1:1", "+OK"},
		step{0, "TAKE y/x c:2:1", "+OK"},
		step{0, "TAKE x:y c:1:1", "+OK"},
		step{0, `TAKE x\:y c:1:1`, "+OK"},
		step{0, `TAKE x\ c:1:1`, "+OK"},
		step{0, `TAKE x\/y c:2:1`, "+OK"},
		step{0, "TAKE -/- c:1:1", "+OK"},
		step{0, "TAKE -/- c:2:1", "+OK"},
		step{0, "TAKE -/y c:1:1", "-DENIED 100"})
	checkDo(t, m, 0, "TAKE "+strings.Repeat("x", 100)+" c:1:1", "+OK")
	// Any bytes may be in a part.
	for _, part := range []string{" ", "\x00", "\xff", "\r\n", "é", "e\u0301", "\ufffd"} {
		for i, want := range []string{"+OK", "-DENIED 100"} {
			if got := said(t, m.Do(0, "TAKE", part, "c:1:1")); got != want {
				t.Fatalf("%q, the %d.: %s, not %s", part, i, got, want)
			}
		}
	}
}

// severally are wishes of four keys, each of another Kind, in four of four shards, up to their costs.
func severally() (path string, wishes []string) {
	var parts []string
	for i, x := range limited() {
		name := args(x.line)[1]
		for n := 0; len(parts) == i; n++ {
			part := "k" + strconv.Itoa(n)
			if shardOf(keyOf(name, i+1, append(parts, part)...), 4) == i {
				parts = append(parts, part)
			}
		}
		wishes = append(wishes, name+":"+strconv.Itoa(i+1)+":")
	}
	return strings.Join(parts, "/"), wishes
}

// TestAllOrNothing: all wishes are charged, or none is, whichever of them is denied, and in whatever shards they are.
func TestAllOrNothing(t *testing.T) {
	path, wishes := severally()
	for _, shards := range []int{1, 2, 4, 64} {
		m := New(shards, 9, 0)
		checkSteps(t, m, limited()...)
		if l := m.Touches("TAKE", path, "b:1:1", "g:2:1", "l:3:1", "c:4:1"); shards == 4 && len(l) != 4 {
			t.Fatal(l)
		}
		line := func(costs ...int) string {
			l := []string{path}
			for i, cost := range costs {
				l = append(l, wishes[i]+strconv.Itoa(cost))
			}
			return " " + strings.Join(l, " ")
		}
		checkDo(t, m, 0, "TAKE"+line(1, 1, 1, 1), "+OK")
		for name := range asks() {
			for i, wait := range []string{"20", "20", "100", "100"} {
				costs := []int{4, 4, 4, 4}
				costs[i]++
				a, b := m.Copy(), m.Copy()
				checkDo(t, a, 0, name+line(costs...), "-DENIED "+wait)
				if name != "PEEK" {
					b.counts[1]++
				}
				checkSame(t, "denied", a, b)
				costs[i] = 6
				checkTrial(t, m, 0, name+line(costs...), "-DENIED -1")
			}
			// The longest of all that are told.
			checkTrial(t, m, 0, name+line(5, 5, 4, 4), "-DENIED 20")
			checkTrial(t, m, 0, name+line(5, 5, 5, 5), "-DENIED 100")
			checkTrial(t, m, 10, name+line(5, 1, 1, 1), "-DENIED 10")
			checkTrial(t, m, 10, name+line(5, 1, 1, 5), "-DENIED 90")
			checkTrial(t, m, 10, name+line(5, 6, 5, 5), "-DENIED -1")
		}
		for name := range asks() {
			a := m.Copy()
			want := map[string]string{"TAKE": "-DENIED", "RESERVE 1000": "-DENIED", "PEEK": "+OK"}[name]
			if r := said(t, a.Do(0, args(name+line(4, 4, 4, 4))...)); strings.HasPrefix(r, "-") {
				t.Fatal(r)
			}
			for i, wish := range wishes {
				if got := said(t, a.Copy().Do(0, "TAKE", path, wish+"1")); !strings.HasPrefix(got, want) {
					t.Fatalf("%s: %s of the %d.", name, got, i)
				}
			}
		}
	}
}

// TestNoRoomForOne: where one of several has no room, none is charged.
func TestNoRoomForOne(t *testing.T) {
	path, wishes := severally()
	for i, full := range wishes {
		m := New(4, 1, 0)
		checkSteps(t, m, limited()...)
		// Another key takes the room of one shard.
		shard := m.Touches("TAKE", path, full+"1")
		checkDo(t, m, 0, "POLICY o 4 9 100 0 0 0", ":5")
		checkDo(t, m, 0, "TAKE "+apart("o", 5, 4)[shard[0]]+" o:1:1", "+OK")
		before := m.Copy()
		for range 3 {
			checkDo(t, m, 0, "TAKE "+path+" b:1:1 g:2:1 l:3:1 c:4:1", "-UNAVAILABLE")
			checkDo(t, m, 0, "RESERVE 5 "+path+" b:1:5 g:2:5 l:3:5 c:4:5", "-UNAVAILABLE")
			before.counts[2] += 2
			checkSame(t, full, m, before)
			checkTrial(t, m, 0, "PEEK "+path+" b:1:1 g:2:1 l:3:1 c:4:1", "+OK")
		}
		checkTrial(t, m, 100, "TAKE "+path+" b:1:1 g:2:1 l:3:1 c:4:1", "+OK")
		for j, other := range wishes {
			if i != j {
				checkDo(t, m, 0, "TAKE "+path+" "+other+"5", "+OK")
			}
		}
	}
}

// TestPeek: it tells what TAKE tells, but for want of room, and changes and counts nothing.
func TestPeek(t *testing.T) {
	for _, room := range []int{0, 1, 9} {
		m := New(2, room, 0)
		checkSteps(t, m, limited()...)
		m.Do(0, args("TAKE x b:1:2 l:0:3")...)
		m.Do(0, args("RESERVE 500 x c:1:2")...)
		for _, line := range []string{"x b:1:1", "x b:1:4", "x b:1:6", "x/y l:0:2 g:2:1", "x/y l:0:3 g:2:1", "x/y l:0:3 g:2:9", "x c:1:3", "x c:1:4", "- c:0:5 g:0:5", "x n:0:1", "- b:1:1", "x//y b:0:1"} {
			before := m.Copy()
			want := said(t, m.Copy().Do(0, args("TAKE "+line)...))
			if want == "-UNAVAILABLE" {
				want = "+OK"
			}
			for range 3 {
				checkDo(t, m, 0, "PEEK "+line, want)
			}
			checkSame(t, line, m, before)
		}
	}
}

// TestPeekExpires: what is due comes back ahead of it, as ahead of TAKE.
func TestPeekExpires(t *testing.T) {
	m := New(2, 9, 0)
	checkSteps(t, m, limited()...)
	checkSteps(t, m,
		step{0, "RESERVE 10 x b:1:5", ":1"},
		step{9, "PEEK x b:1:5", "-DENIED -1"},
		step{10, "PEEK x b:1:5", "+OK"},
		step{10, "COMMIT 1", "-ERR 4"})
	if len(m.Held()) != 0 {
		t.Fatal(m.Held())
	}
}

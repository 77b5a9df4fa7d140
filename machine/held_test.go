package machine

import (
	"slices"
	"strconv"
	"testing"

	"tapster/api"
)

// counting is a Machine with a policy c, of 10 in times of 1000 each, by version 1.
func counting(t testing.TB) *Machine {
	t.Helper()
	m := New(4, 9, 0)
	checkDo(t, m, 0, "POLICY c 4 10 1000 0 0 0", ":1")
	return m
}

func countPolicy() api.Policy {
	return api.Policy{Kind: api.Count, Limit: 10, Period: 1000}
}

// checkKey holds how much was taken of a key of counting, and how much is held of it.
func checkKey(t testing.TB, m *Machine, part string, level, held int) {
	t.Helper()
	if s := m.store.Look(keyOf("c", 1, part), countPolicy(), m.Now()); s.Level != level || s.Held != held {
		t.Fatalf("%s: %d taken, %d held, not %d, %d", part, s.Level, s.Held, level, held)
	}
}

func sameDue(a, b api.Due) bool {
	return a.ID == b.ID && a.Till == b.Till && slices.Equal(a.Limits, b.Limits)
}

func checkHeld(t testing.TB, m *Machine, want ...api.Due) {
	t.Helper()
	if got := m.Held(); !slices.EqualFunc(got, want, sameDue) {
		t.Fatalf("held: %v, not %v", got, want)
	}
}

func due(id, till int, l ...api.Limit) api.Due {
	return api.Due{ID: id, Till: till, Limits: l}
}

// limit is some cost of a key of counting.
func limit(part string, cost int) api.Limit {
	return api.Limit{Key: keyOf("c", 1, part), Policy: countPolicy(), Cost: cost}
}

// TestHeld: nothing, several, by rising IDs, whenever they are due; each with its limits by rising keys; and what is due is told till something makes it come back.
func TestHeld(t *testing.T) {
	m := counting(t)
	checkHeld(t, m)
	checkDo(t, m, 5, "RESERVE 50 y/x c:1:1 c:1:2", ":1")
	checkHeld(t, m, due(1, 55, limit("y", 3)))
	checkDo(t, m, 5, "RESERVE 10 b c:1:1", ":2")
	checkDo(t, m, 4, "RESERVE 70 b/a c:1:1 c:0:4", ":3")
	checkDo(t, m, 6, "RESERVE 0 d c:1:1", ":4")
	root := api.Limit{Key: "c:1:", Policy: countPolicy(), Cost: 4}
	checkHeld(t, m, due(1, 55, limit("y", 3)), due(2, 15, limit("b", 1)), due(3, 75, root, limit("b", 1)), due(4, 6, limit("d", 1)))
	// What asks for no costs leaves it, however late it is.
	for _, line := range []string{"PING", "GET k", "SET k 1", "POLICY d 4 1 1 0 0 0", "DROP d", "FOO", "TAKE x n:1:1", "COMMIT 0", "TTL k"} {
		m.Do(500, args(line)...)
		if len(m.Held()) != 4 {
			t.Fatal(line, m.Held())
		}
	}
	for _, line := range []string{"STATS", "PEEK x c:1:1", "PEEK x c:1:11", "TAKE x c:1:1", "RESERVE 0 x c:1:11", "COMMIT 3", "CANCEL 9"} {
		a := m.Copy()
		a.Do(0, args(line)...)
		checkHeld(t, a)
	}
}

// TestHeldOrder: by rising IDs, of as many as there may be.
func TestHeldOrder(t *testing.T) {
	m := New(3, 9, 0)
	checkDo(t, m, 0, "POLICY b 1 1 1 1048576 0 0", ":1")
	for i := range 1000 {
		checkDo(t, m, 0, "RESERVE "+strconv.Itoa(1+i*7919%1000)+" x b:1:1", ":"+strconv.Itoa(i+1))
	}
	check := func(m *Machine, count int) {
		t.Helper()
		last := 0
		for _, x := range m.Held() {
			if x.ID <= last || x.Till != 1+(x.ID-1)*7919%1000 {
				t.Fatal(x)
			}
			last = x.ID
		}
		if len(m.Held()) != count {
			t.Fatal(len(m.Held()))
		}
	}
	check(m, 1000)
	before := m.Copy()
	checkDo(t, m, 0, "RESERVE 5 x b:1:1", "-UNAVAILABLE")
	before.counts[2]++
	checkSame(t, "full", m, before)
	checkTrial(t, m, 0, "RESERVE 5 x b:1:1048576", "-DENIED -1")
	checkTrial(t, m, 0, "TAKE x b:1:1", "+OK")
	checkTrial(t, m, 0, "PEEK x b:1:1", "+OK")
	// One goes, another one comes.
	a := m.Copy()
	checkSteps(t, a,
		step{0, "CANCEL 500", "+OK"},
		step{0, "RESERVE 5 x b:1:1", ":1001"},
		step{0, "RESERVE 5 x b:1:1", "-UNAVAILABLE"},
		step{0, "COMMIT 1001", "+OK"},
		step{0, "RESERVE 5 x b:1:1", ":1002"})
	checkTrial(t, m, 1, "RESERVE 5 x b:1:1", ":1001")
	checkStats(t, m, 600, 600, 1, 1, 400, 0, 1000, 0, 1)
	check(m, 400)
	checkStats(t, m, 1000, 1000, 1, 0, 0, 0, 1000, 0, 1)
}

// TestIDs: each is told once, and none where nothing is held of it.
func TestIDs(t *testing.T) {
	m := counting(t)
	checkSteps(t, m,
		step{0, "RESERVE 5 x c:1:1", ":1"},
		step{0, "RESERVE 5 x c:1:10", "-DENIED -1"},
		step{0, "RESERVE 5 x n:1:1", "-ERR 4"},
		step{0, "RESERVE -5 x c:1:1", "-ERR 2"},
		step{0, "RESERVE 5 x c:1:1", ":2"},
		step{0, "COMMIT 2", "+OK"},
		step{0, "RESERVE 5 y c:1:1", ":3"},
		step{0, "CANCEL 3", "+OK"},
		step{0, "RESERVE 5 y c:1:1", ":4"},
		step{100, "STATS", "clock 100, policies 1, cells 1, held 0, numbers 0, granted 4, denied 1, unavailable 0"},
		step{100, "RESERVE 5 y c:1:1", ":5"},
		step{100, "DROP c", ":1"},
		step{100, "POLICY c 4 10 1000 0 0 0", ":2"},
		step{100, "RESERVE 5 y c:1:1", ":6"})
}

// TestSpans: from 0, which is due at once, to MaxTime, which is due when time ends.
func TestSpans(t *testing.T) {
	for _, x := range []struct{ now, span, till int }{
		{0, 0, 0}, {7, 0, 7}, {7, 1, 8}, {7, 100, 107}, {0, late, late}, {7, late, late}, {7, late - 7, late}, {7, late - 8, late - 1}, {late, 0, late}, {late, 1, late}, {late, late, late}, {most, late, late}, {least, 5, 5},
	} {
		m := counting(t)
		checkDo(t, m, x.now, "RESERVE "+strconv.Itoa(x.span)+" x c:1:10", ":1")
		checkHeld(t, m, due(1, x.till, limit("x", 10)))
		for _, now := range []int{x.till - 1, x.till, x.till + 1} {
			// Time doesn't go back, nor beyond its end.
			now = min(max(now, m.Now()), late)
			commit, take := "+OK", "-DENIED -1"
			if now >= x.till {
				commit, take = "-ERR 4", "+OK"
			}
			checkTrial(t, m, now, "COMMIT 1 0", commit)
			checkTrial(t, m, now, "CANCEL 1", commit)
			checkTrial(t, m, now, "TAKE x c:1:10", take)
		}
	}
}

// TestCommit: with no second number, with less than is held, as much, and more.
func TestCommit(t *testing.T) {
	for _, x := range []struct {
		line         string
		small, great int
	}{
		{"COMMIT 1", 2, 6}, {"COMMIT 1 0", 0, 0}, {"COMMIT 1 1", 1, 1}, {"COMMIT 1 2", 2, 2}, {"COMMIT 1 3", 2, 3}, {"COMMIT 1 5", 2, 5}, {"COMMIT 1 6", 2, 6}, {"COMMIT 1 7", 2, 6}, {"COMMIT 1 1048576", 2, 6}, {"CANCEL 1", 0, 0},
	} {
		for _, now := range []int{0, 3, 52} {
			m := counting(t)
			checkDo(t, m, 3, "TAKE x/y c:1:1", "+OK")
			l := []api.Limit{limit("x", 2), {Key: keyOf("c", 1, "x", "y"), Policy: countPolicy(), Cost: 6}}
			checkDo(t, m, 3, "RESERVE 50 x/y c:1:2 c:2:6", ":1")
			checkHeld(t, m, due(1, 53, l...))
			checkKey(t, m, "x", 1, 2)
			checkDo(t, m, now, x.line, "+OK")
			checkHeld(t, m)
			checkKey(t, m, "x", 1+x.small, 0)
			if s := m.store.Look(l[1].Key, l[1].Policy, m.Now()); s.Level != x.great || s.Held != 0 {
				t.Fatal(x.line, s)
			}
			for _, line := range []string{"COMMIT 1", "COMMIT 1 0", "COMMIT 1 5", "CANCEL 1"} {
				checkTrial(t, m, now, line, "-ERR 4")
			}
			// What was committed is taken, and what was not is free.
			checkTrial(t, m, now, "TAKE x c:1:"+strconv.Itoa(9-x.small), "+OK")
			checkTrial(t, m, now, "TAKE x c:1:"+strconv.Itoa(10-x.small), "-DENIED "+strconv.Itoa(1000-m.Now()))
		}
	}
}

// TestCommitted: what is committed is known from when it is; what is released makes room at once.
func TestCommitted(t *testing.T) {
	m := New(2, 9, 0)
	checkSteps(t, m, limited()...)
	checkSteps(t, m,
		step{0, "RESERVE 500 x l:1:5", ":1"},
		step{60, "COMMIT 1 3", "+OK"},
		step{60, "TAKE x l:1:2", "+OK"},
		step{60, "TAKE x l:1:1", "-DENIED 100"},
		step{159, "TAKE x l:1:1", "-DENIED 1"},
		step{160, "RESERVE 500 x l:1:5", ":2"},
		step{170, "CANCEL 2", "+OK"},
		step{170, "TAKE x l:1:5", "+OK"},
		// A bucket's tokens are gone from when they are held.
		step{170, "RESERVE 500 x b:1:5", ":3"},
		step{190, "COMMIT 3 4", "+OK"},
		step{190, "PEEK x b:1:1", "+OK"},
		step{190, "PEEK x b:1:2", "-DENIED 20"})
}

// TestNoSuchID: what is not there, and what is no more.
func TestNoSuchID(t *testing.T) {
	m := counting(t)
	checkDo(t, m, 0, "RESERVE 50 x c:1:1", ":1")
	checkDo(t, m, 0, "RESERVE 60 x c:1:1", ":2")
	checkDo(t, m, 0, "RESERVE 70 x c:1:1", ":3")
	checkDo(t, m, 0, "COMMIT 1", "+OK")
	checkDo(t, m, 0, "CANCEL 2", "+OK")
	for _, id := range []string{"1", "2", "4", "5", "4294967299", "9007199254740992"} {
		for _, line := range []string{"COMMIT " + id, "COMMIT " + id + " 0", "COMMIT " + id + " 1", "CANCEL " + id} {
			before := m.Copy()
			checkDo(t, m, 0, line, "-ERR 4")
			checkSame(t, line, m, before)
			if l := m.Touches(args(line)...); len(l) != 0 {
				t.Fatal(line, l)
			}
		}
	}
	checkDo(t, m, 69, "COMMIT 3", "+OK")
	checkDo(t, m, 69, "COMMIT 3", "-ERR 4")
}

// TestDue: at its time, one before, and one behind.
func TestDue(t *testing.T) {
	m := counting(t)
	checkDo(t, m, 5, "RESERVE 50 x c:1:7", ":1")
	for _, line := range []string{"COMMIT 1", "COMMIT 1 3", "CANCEL 1"} {
		checkTrial(t, m, 54, line, "+OK")
		checkTrial(t, m, 55, line, "-ERR 4")
		checkTrial(t, m, 56, line, "-ERR 4")
	}
	for name, granted := range map[string]string{"TAKE": "+OK", "PEEK": "+OK", "RESERVE 0": ":2"} {
		checkTrial(t, m, 54, name+" x c:1:3", granted)
		checkTrial(t, m, 54, name+" x c:1:4", "-DENIED -1")
		checkTrial(t, m, 55, name+" x c:1:10", granted)
		checkTrial(t, m, 56, name+" x c:1:10", granted)
	}
	// What was due is back for good, though the clock be told to go back.
	checkDo(t, m, 55, "PEEK - c:0:1", "+OK")
	checkDo(t, m, 0, "COMMIT 1", "-ERR 4")
	checkKey(t, m, "x", 0, 0)
}

// TestComesBack: what is due is there again with what came in the meantime, however late it is asked for.
func TestComesBack(t *testing.T) {
	m := New(2, 9, 0)
	checkDo(t, m, 0, "POLICY b 1 1 10 5 0 0", ":1")
	checkDo(t, m, 0, "TAKE x b:1:4", "+OK")
	checkDo(t, m, 0, "RESERVE 20 x b:1:1", ":1")
	checkTrial(t, m, 19, "TAKE x b:1:2", "-DENIED 1")
	checkTrial(t, m, 20, "TAKE x b:1:4", "-DENIED 10")
	for now, cost := range map[int]int{20: 3, 29: 3, 30: 4, 39: 4, 40: 5, 500: 5} {
		checkTrial(t, m, now, "TAKE x b:1:"+strconv.Itoa(cost), "+OK")
		checkTrial(t, m, now, "TAKE x b:1:"+strconv.Itoa(cost)+" b:1:1", map[int]string{3: "-DENIED " + strconv.Itoa(30-now), 4: "-DENIED " + strconv.Itoa(40-now), 5: "-DENIED -1"}[cost])
	}
}

// TestTouches tells the shards of each command that may touch some, and none of all others.
func TestTouches(t *testing.T) {
	for _, shards := range []int{1, 2, 4, 64} {
		m := New(shards, 9, 9)
		checkSteps(t, m, limited()...)
		checkSteps(t, m,
			step{0, "RESERVE 50 x/y b:1:1 c:0:1 l:2:1", ":1"},
			step{0, "RESERVE 50 x/y g:1:1 g:2:1", ":2"},
			step{0, "RESERVE 50 x/y g:1:1", ":3"},
			step{0, "CANCEL 3", "+OK"},
			step{0, "SET k 5", "+OK"})
		check := func(line string, keys ...string) {
			t.Helper()
			var want []int
			for _, key := range keys {
				want = append(want, shardOf(key, shards))
			}
			slices.Sort(want)
			want = slices.Compact(want)
			before := m.Copy()
			if got := m.Touches(args(line)...); !slices.Equal(got, want) {
				t.Fatalf("%q of %d shards: %v, not %v", line, shards, got, want)
			}
			checkSame(t, line, m, before)
		}
		for _, name := range []string{"TAKE", "PEEK", "RESERVE 5", "take", "Reserve 0"} {
			check(name+" - b:0:1", "b:1:")
			check(name+" x/y b:0:1", "b:1:")
			check(name+" x/y b:1:1", "b:1:x:")
			check(name+" x/y b:1:1 b:1:1", "b:1:x:")
			check(name+" x/y b:2:1 c:2:1 g:0:1 l:1:1 c:1:1", "b:1:x:y:", "c:4:x:y:", "g:2:", "l:3:x:", "c:4:x:")
			// Whatever is told of the costs.
			check(name+" x/y b:1:1048576 c:2:9", "b:1:x:", "c:4:x:y:")
			check(name + " x b:2:1")
			check(name + " x b:1:1 n:0:1")
			check(name + " x b:1:1048576 b:1:1")
			check(name + " x b:1:0")
			check(name + " x")
		}
		for _, line := range []string{"COMMIT 1", "COMMIT 1 0", "COMMIT 1 9", "CANCEL 1", "cancel 1"} {
			check(line, "b:1:x:", "c:4:", "l:3:x:y:")
		}
		check("COMMIT 2", "g:2:x:", "g:2:x:y:")
		check("CANCEL 2", "g:2:x:", "g:2:x:y:")
		for _, line := range []string{"COMMIT 3", "CANCEL 3", "COMMIT 4", "CANCEL 9007199254740992", "COMMIT 0", "COMMIT 1 -1", "COMMIT", "CANCEL 1 1"} {
			check(line)
		}
		for _, line := range []string{"PING", "STATS", "POLICY b 4 5 100 0 0 0", "DROP b", "SET k 1", "GET k", "INCRBY k 1", "DEL k", "EXPIRE k 1", "TTL k", "FOO", ""} {
			check(line)
		}
		// By the policies as they are now; what is held, by those of then, and as long as it is told to be held.
		checkDo(t, m, 100, "POLICY b 1 6 100 6 0 0", ":5")
		checkDo(t, m, 100, "DROP c", ":1")
		check("TAKE x/y b:1:1", "b:5:x:")
		check("TAKE x/y c:1:1")
		check("COMMIT 1", "b:1:x:", "c:4:", "l:3:x:y:")
		checkDo(t, m, 100, "STATS", "clock 100, policies 3, cells 0, held 0, numbers 1, granted 3, denied 0, unavailable 0")
		check("COMMIT 1")
	}
}

// TestTouchesAll: of many wishes many shards, rising, each once.
func TestTouchesAll(t *testing.T) {
	m := New(20, 1, 0)
	line := []string{"TAKE", "x/y"}
	var keys []string
	for i := range 20 {
		name := "p" + strconv.Itoa(i*i)
		checkDo(t, m, 0, "POLICY "+name+" 4 1 1 0 0 0", ":"+strconv.Itoa(i+1))
		line = append(line, name+":"+strconv.Itoa(i%3)+":1")
		keys = append(keys, keyOf(name, i+1, []string{"x", "y"}[:i%3]...))
	}
	var want []int
	for _, key := range keys {
		want = append(want, shardOf(key, 20))
	}
	slices.Sort(want)
	want = slices.Compact(want)
	got := m.Touches(line...)
	if !slices.Equal(got, want) || len(got) < 8 {
		t.Fatalf("%v, not %v", got, want)
	}
}

// TestChangesLieThere: what a command changes lies in the shards that Touches tells of it, if nothing else is due.
func TestChangesLieThere(t *testing.T) {
	m := begun(t)
	parts := [][]string{nil, {"x"}, {"x", "y"}, {"x", "y", "z"}, {"z"}}
	changed := 0
	for _, now := range []int{8, 20, 50} {
		for _, line := range lines() {
			touched := m.Touches(args(line)...)
			after := m.Copy()
			after.Do(now, args(line)...)
			for version := 1; version <= 6; version++ {
				for _, l := range parts {
					name := []string{"b", "g", "l", "c", "o", "o"}[version-1]
					key := keyOf(name, version, l...)
					p, _, there := m.book.Get(name)
					if name == "o" && version == 5 {
						p.Limit = 3
					}
					a, b := m.store.Look(key, p, now), after.store.Look(key, p, now)
					if a.At == b.At && a.Level == b.Level && a.Held == b.Held && slices.Equal(a.Log, b.Log) {
						continue
					}
					changed++
					if !there || !slices.Contains(touched, shardOf(key, 4)) {
						t.Fatalf("%q changes %s, not only %v", line, key, touched)
					}
				}
			}
		}
	}
	if changed < 40 {
		t.Fatal("too little changed to tell:", changed)
	}
}

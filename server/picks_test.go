package server

import (
	"slices"
	"strconv"
	"strings"
	"testing"
)

// TestOnePick: what touches no shard is done by the first pick, and nothing is ever LOCKED for it.
func TestOnePick(t *testing.T) {
	for line, want := range map[string]string{
		"PING": "+PONG", "STATS": "clock 0, policies 1, cells 0, held 0, numbers 0, granted 0, denied 0, unavailable 0", "POLICY c 4 5 100 0 0 0": ":1", "POLICY d 4 5 100 0 0 0": ":2", "DROP c": ":1", "DROP d": ":0",
		"SET k 5": "+OK", "GET k": "none", "INCRBY k 5": ":5", "DEL k": ":0", "EXPIRE k 5": ":0", "TTL k": ":-2",
		// Errors of Parse.
		"FOO": "-ERR 10", "TAKE": "-ERR 11", "TAKE - c": "-ERR 2", "PEEK x c:1:0": "-ERR 2", "RESERVE -1 x c:1:1": "-ERR 2", "COMMIT 0": "-ERR 2", "TAKE 1/2/3/4/5/6/7/8/9 c:0:1": "-ERR 3", "SET k x": "-ERR 2",
		// Errors of Expand.
		"TAKE x d:0:1": "-ERR 4", "PEEK x c:0:1 d:0:1": "-ERR 4", "RESERVE 5 x c:2:1": "-ERR 2", "TAKE x c:1:1 c:2:1": "-ERR 2", "TAKE x c:0:1048576 c:0:1": "-ERR 6",
		// What is not held.
		"COMMIT 1": "-ERR 4", "COMMIT 1 0": "-ERR 4", "CANCEL 1": "-ERR 4", "CANCEL 9007199254740992": "-ERR 4",
	} {
		// Nor does it wait for anything.
		s := begun(t, 2, 3)
		do(t, s, "2: TAKE "+wish(2, 1, 0, 1), "pick 2", "pick 2", "1: "+line)
		checkRunnable(t, s, 1, 2)
		do(t, s, "pick 1")
		checkLocks(t, s, 2, 2)
		checkWaiting(t, s, 0, 0, 1)
		do(t, s, "!pick 1")
		checkEvents(t, s, "0 at 0: POLICY c 4 5 100 0 0 0 = :1", "1 at 0: "+line+" = "+want)
	}
}

// TestLocked: the shards that a command touches are LOCKED rising, each once, one a pick; by the one behind that it is done, and then nothing is LOCKED.
func TestLocked(t *testing.T) {
	for _, wanted := range [][]int{{0}, {3}, {1, 2}, {2, 1}, {3, 0}, {0, 0}, {2, 2, 2}, {3, 1, 3, 1}, {2, 0, 3}, {0, 1, 2, 3}, {3, 2, 1, 0}, {3, 2, 1, 0, 0, 1, 2, 3}} {
		rising := slices.Clone(wanted)
		slices.Sort(rising)
		rising = slices.Compact(rising)
		for _, name := range []string{"TAKE ", "PEEK ", "RESERVE 9 ", "take ", "COMMIT 1", "CANCEL 1", "COMMIT 1 0"} {
			s := begun(t, 4, 2)
			line := name + wish(4, 1, wanted...)
			if name[0] == 'C' {
				do(t, s, "0: RESERVE 9 "+wish(4, 1, wanted...))
				s.Drain(9)
				line = name
			}
			done := len(s.History())
			do(t, s, "1: "+line)
			want := []int{-1, -1, -1, -1}
			for _, shard := range rising {
				checkLocks(t, s, want...)
				checkRunnable(t, s, 1)
				do(t, s, "pick 1")
				want[shard] = 1
			}
			checkLocks(t, s, want...)
			checkRunnable(t, s, 1)
			checkWaiting(t, s, 0, 1)
			checkOut(t, s, 1, "")
			if n := len(s.History()); n != done {
				t.Fatalf("%q: %d events, not %d", line, n, done)
			}
			do(t, s, "pick 1")
			checkFree(t, s)
			checkRunnable(t, s)
			checkWaiting(t, s)
			h := s.History()
			if x := h[len(h)-1]; len(h) != done+1 || x.Conn != 1 || !slices.Equal(x.Args, args(line)) || said(t, x.Reply)[0] == '-' {
				t.Fatalf("%q: %q", line, events(t, s))
			}
		}
	}
}

// TestLockedByMany: of many wishes many shards are LOCKED.
func TestLockedByMany(t *testing.T) {
	s := New(64, 9, 9)
	do(t, s, "open")
	line := "TAKE a/b"
	shards := map[int]bool{}
	for i := range 20 {
		name := "p" + strconv.Itoa(i)
		do(t, s, "0: POLICY "+name+" 4 5 100 0 0 0", "pick 0")
		line += " " + name + ":" + strconv.Itoa(i%3) + ":1"
		shards[shardOf(keyOf(name, i+1, []string{"a", "b"}[:i%3]...), 64)] = true
	}
	do(t, s, "0: "+line)
	last := -1
	for i := range len(shards) {
		before := s.Locks()
		do(t, s, "pick 0")
		now := s.Locks()
		shard := slices.IndexFunc(now, func(conn int) bool { return conn == 0 })
		for j := range now {
			if now[j] != before[j] {
				shard = j
			}
		}
		if shard <= last || !shards[shard] || strings.Count(numbers(now), " 0") != i+1 {
			t.Fatal(i, shard, last, now)
		}
		last = shard
	}
	if n := s.Drain(9); n != 1 || len(shards) < 12 {
		t.Fatal(n, shards)
	}
	checkFree(t, s)
}

// TestTaskStays: a TASK's shards are those that were told when it was picked first, whatever comes between; what is done is done by what there is when it is.
func TestTaskStays(t *testing.T) {
	line := "TAKE " + wish(4, 2, 3, 0, 1)
	for _, between := range []struct {
		lines []string
		want  string
	}{
		{nil, "+OK"},
		{[]string{"PING", "STATS"}, "+OK"},
		{[]string{"DROP c"}, "-ERR 4"},
		{[]string{"POLICY c 4 1 100 0 0 0"}, "-DENIED -1"},
		{[]string{"POLICY c 4 9 100 0 0 0"}, "+OK"},
		{[]string{"DROP c", "POLICY c 4 5 100 0 0 0"}, "+OK"},
		{[]string{"DROP c", "POLICY c 4 1 100 0 0 0", "DROP c"}, "-ERR 4"},
	} {
		for at := range 4 {
			s := begun(t, 4, 3)
			do(t, s, "1: "+line)
			locks := []int{-1, -1, -1, -1}
			for i, shard := range []int{0, 1, 3, -1} {
				if i > 0 && i == at {
					for _, line := range between.lines {
						do(t, s, "2: "+line, "pick 2")
					}
				}
				checkLocks(t, s, locks...)
				checkRunnable(t, s, 1)
				if shard >= 0 {
					do(t, s, "pick 1")
					locks[shard] = 1
				}
			}
			if at == 0 {
				for _, line := range between.lines {
					do(t, s, "2: "+line, "pick 2")
				}
			}
			checkLocks(t, s, 1, 1, -1, 1)
			do(t, s, "pick 1", "!pick 1")
			checkFree(t, s)
			checkOut(t, s, 1, between.want+"\r\n")
		}
	}
}

// TestTaskOfCommit: what is held by an ID is told when it is picked first, and may end ahead of when it is done.
func TestTaskOfCommit(t *testing.T) {
	held := func() *Server {
		s := begun(t, 4, 3)
		do(t, s, "0: RESERVE 9 "+wish(4, 2, 2, 1), "pick 0", "pick 0", "pick 0")
		return s
	}
	// It is due between the picks; of what is due nothing is told any more only once it came back.
	for _, back := range [][]string{nil, {"2: STATS", "pick 2"}, {"2: TAKE " + wish(4, 1, 0), "pick 2", "pick 2"}} {
		for at := range 3 {
			s := held()
			do(t, s, "1: COMMIT 1")
			for i := range 3 {
				checkLocks(t, s, [][]int{{-1, -1, -1, -1}, {-1, 1, -1, -1}, {-1, 1, 1, -1}}[i]...)
				if i == at {
					do(t, s, "tick 9")
				}
				if i == at && i > 0 {
					do(t, s, back...)
				}
				do(t, s, "pick 1")
			}
			checkOut(t, s, 1, "-ERR 4\r\n")
			checkFree(t, s)
			do(t, s, "1: COMMIT 1", "pick 1")
			checkOut(t, s, 1, "-ERR 4\r\n-ERR 4\r\n")
		}
	}
	// Of two that would end it the second one waits till it is ended; then it touches nothing.
	for _, line := range []string{"CANCEL 1", "COMMIT 1 1"} {
		s := held()
		do(t, s, "2: "+line, "1: COMMIT 1", "pick 2", "!pick 1", "pick 2", "!pick 1", "pick 2")
		checkRunnable(t, s, 1)
		do(t, s, "pick 1")
		checkOut(t, s, 1, "-ERR 4\r\n")
		checkOut(t, s, 2, "+OK\r\n")
	}
	// What is ended by one that LOCKED nothing of it: it was not held yet, when that was picked first.
	s := held()
	do(t, s, "2: CANCEL 2", "1: CANCEL 1")
	do(t, s, "pick 2", "pick 1", "pick 1", "pick 1")
	checkOut(t, s, 2, "-ERR 4\r\n")
	checkOut(t, s, 1, "+OK\r\n")
	do(t, s, "2: CANCEL 2", "0: RESERVE 9 "+wish(4, 2, 2, 1), "pick 0", "pick 0", "pick 0", "pick 2")
	checkLocks(t, s, -1, 2, -1, -1)
	do(t, s, "pick 2", "pick 2")
	checkOut(t, s, 2, "-ERR 4\r\n+OK\r\n")
}

// TestDroppedBetween is TestTaskStays by hand: the shards of the policy that was there first, the answer by the one that is there last.
func TestDroppedBetween(t *testing.T) {
	s := begun(t, 4, 3)
	line := wish(4, 2, 3, 1)
	do(t, s, "1: TAKE "+line, "pick 1", "2: POLICY c 4 1 100 0 0 0", "pick 2")
	checkLocks(t, s, -1, 1, -1, -1)
	do(t, s, "pick 1")
	checkLocks(t, s, -1, 1, -1, 1)
	do(t, s, "2: DROP c", "pick 2")
	checkLocks(t, s, -1, 1, -1, 1)
	do(t, s, "2: POLICY c 4 2 100 0 0 0", "pick 2", "pick 1", "!pick 1")
	checkFree(t, s)
	checkOut(t, s, 1, "+OK\r\n")
	checkOut(t, s, 2, ":2\r\n:1\r\n:3\r\n")
	// By the third version alone was anything taken.
	do(t, s, "2: STATS", "2: TAKE "+line)
	s.Drain(9)
	checkEvents(t, s, "0 at 0: POLICY c 4 5 100 0 0 0 = :1", "2 at 0: POLICY c 4 1 100 0 0 0 = :2", "2 at 0: DROP c = :1", "2 at 0: POLICY c 4 2 100 0 0 0 = :3", "1 at 0: TAKE "+line+" = +OK",
		"2 at 0: STATS = clock 0, policies 1, cells 2, held 0, numbers 0, granted 1, denied 0, unavailable 0", "2 at 0: TAKE "+line+" = -DENIED 100")
}

// TestToldNow: of a TASK that was not picked yet, the shards are those that are told now: who waited for one may go on, and the other way.
func TestToldNow(t *testing.T) {
	s := begun(t, 7, 3)
	do(t, s, "2: TAKE "+wish(7, 1, 3), "pick 2", "1: TAKE k c:1:1")
	kept := []int{-1, -1, -1, 2, -1, -1, -1}
	waited, went := 0, 0
	shard := -1
	for version := 2; waited < 3 || went < 3 || shard == 3; version++ {
		// Without its policy it touches nothing, and waits for nobody.
		do(t, s, "0: DROP c", "pick 0")
		checkRunnable(t, s, 1, 2)
		do(t, s, "0: POLICY c 4 5 100 0 0 0", "pick 0")
		shard = shardOf(keyOf("c", version, "k"), 7)
		if shard == 3 {
			checkRunnable(t, s, 2)
			do(t, s, "!pick 1")
			waited++
		} else {
			checkRunnable(t, s, 1, 2)
			went++
		}
		checkLocks(t, s, kept...)
	}
	do(t, s, "pick 1", "0: DROP c", "pick 0")
	kept[shard] = 1
	checkLocks(t, s, kept...)
	checkRunnable(t, s, 1, 2)
	do(t, s, "pick 1", "pick 2")
	checkFree(t, s)
	checkOut(t, s, 1, "-ERR 4\r\n")
	checkOut(t, s, 2, "-ERR 4\r\n")
}

// waiting is a Server in which connection 1 waits for shard 1, which 2 LOCKED, and has LOCKED shard 0; 3 waits for shard 0.
func waiting(t testing.TB) *Server {
	t.Helper()
	s := begun(t, 4, 4)
	do(t, s, "2: TAKE "+wish(4, 4, 1, 2), "1: TAKE "+wish(4, 4, 0, 1), "3: TAKE "+wish(4, 4, 0), "pick 2", "pick 1", "!pick 1", "!pick 3")
	checkLocks(t, s, 1, 2, -1, -1)
	checkRunnable(t, s, 2)
	return s
}

// TestWaits: who waits for another one goes on when that one is done, or closed, or ended, and not before.
func TestWaits(t *testing.T) {
	s := waiting(t)
	do(t, s, "pick 2", "!pick 1", "!pick 3", "pick 2", "!pick 3", "pick 1")
	checkLocks(t, s, 1, 1, -1, -1)
	checkRunnable(t, s, 1)
	do(t, s, "pick 1")
	checkFree(t, s)
	checkRunnable(t, s, 3)
	do(t, s, "pick 3", "pick 3")
	checkOut(t, s, 3, "-DENIED 100\r\n")

	s = waiting(t)
	do(t, s, "close 2")
	checkLocks(t, s, 1, -1, -1, -1)
	checkRunnable(t, s, 1)
	do(t, s, "pick 1", "close 1")
	checkFree(t, s)
	checkRunnable(t, s, 3)
	do(t, s, "pick 3", "pick 3")
	checkEvents(t, s, "0 at 0: POLICY c 4 5 100 0 0 0 = :1", "3 at 0: TAKE "+wish(4, 4, 0)+" = +OK")

	// One that is WRONG ends when it is done, not before.
	s = waiting(t)
	do(t, s, "2< x", "!pick 1", "pick 2", "!pick 1")
	checkLive(t, s, 0, 1, 2, 3)
	checkLocks(t, s, 1, 2, 2, -1)
	do(t, s, "pick 2")
	checkLive(t, s, 0, 1, 3)
	checkLocks(t, s, 1, -1, -1, -1)
	checkRunnable(t, s, 1)
	s.Drain(9)
	checkOut(t, s, 2, "+OK\r\n-ERR 7\r\n")
	checkWaiting(t, s)
}

// TestOneOfTwo: of two that wait for the same shard whoever is picked first has it.
func TestOneOfTwo(t *testing.T) {
	for _, first := range []int{1, 2} {
		s := begun(t, 1, 3)
		do(t, s, "1: TAKE x c:1:4", "2: TAKE x c:1:3")
		checkRunnable(t, s, 1, 2)
		other := 3 - first
		do(t, s, "pick "+strconv.Itoa(first), "!pick "+strconv.Itoa(other))
		checkRunnable(t, s, first)
		checkLocks(t, s, first)
		do(t, s, "pick "+strconv.Itoa(first))
		checkFree(t, s)
		checkRunnable(t, s, other)
		do(t, s, "pick "+strconv.Itoa(other), "pick "+strconv.Itoa(other))
		checkOut(t, s, first, "+OK\r\n")
		checkOut(t, s, other, "-DENIED 100\r\n")
	}
}

// TestBehind: commands of one connection come one behind the other, and of each the shards are told anew.
func TestBehind(t *testing.T) {
	s := begun(t, 4, 3)
	do(t, s, "1: TAKE "+wish(4, 1, 0, 2), "1: TAKE "+wish(4, 1, 3, 1), "1: PING", "1: POLICY c 4 1 1000 0 0 0", "1: TAKE x c:1:2", "1: RESERVE 50 x c:1:1", "1: COMMIT 1")
	second := -1
	for i, want := range [][]int{{1, -1, -1, -1}, {1, -1, 1, -1}, {-1, -1, -1, -1}, {-1, 1, -1, -1}, {-1, 1, -1, 1}, {-1, -1, -1, -1}, {-1, -1, -1, -1}, {-1, -1, -1, -1}} {
		do(t, s, "pick 1")
		checkLocks(t, s, want...)
		checkWaiting(t, s, 0, []int{7, 7, 6, 6, 6, 5, 4, 3}[i])
		second = shardOf(keyOf("c", 2, "x"), 4)
	}
	for left := 3; left > 0; left-- {
		locks := []int{-1, -1, -1, -1}
		locks[second] = 1
		do(t, s, "pick 1")
		checkLocks(t, s, locks...)
		// Another one may not, till it is done.
		if left == 3 {
			do(t, s, "2: PEEK x c:1:1", "!pick 2")
		}
		do(t, s, "pick 1")
		checkFree(t, s)
		checkRunnable(t, s, append([]int{1}, 2)[min(1, 1/left):]...)
	}
	checkOut(t, s, 1, "+OK\r\n+OK\r\n+PONG\r\n:2\r\n-DENIED -1\r\n:1\r\n+OK\r\n")
	// What a connection's first command laid the second one's shards are told by, though both came at once.
	s = New(4, 9, 9)
	do(t, s, "open", "0< "+row("POLICY c 4 5 100 0 0 0", "TAKE "+wish(4, 1, 2), "DROP c", "TAKE "+wish(4, 1, 2)), "pick 0", "pick 0")
	checkLocks(t, s, -1, -1, 0, -1)
	do(t, s, "pick 0", "pick 0", "pick 0", "!pick 0")
	checkOut(t, s, 0, ":1\r\n+OK\r\n:1\r\n-ERR 4\r\n")
}

// TestSecondNotLocked: a command that was done leaves nothing LOCKED for the one behind it, of the same shards: another one may come between.
func TestSecondNotLocked(t *testing.T) {
	s := begun(t, 2, 3)
	line := wish(2, 2, 0, 1)
	do(t, s, "1: TAKE "+line, "1: TAKE "+line, "2: TAKE "+line, "pick 1", "pick 1", "pick 1")
	checkFree(t, s)
	checkRunnable(t, s, 1, 2)
	do(t, s, "pick 2", "!pick 1", "pick 2", "pick 2", "pick 1", "pick 1", "pick 1")
	checkEvents(t, s, "0 at 0: POLICY c 4 5 100 0 0 0 = :1", "1 at 0: TAKE "+line+" = +OK", "2 at 0: TAKE "+line+" = +OK", "1 at 0: TAKE "+line+" = -DENIED 100")
}

// TestClose: with nothing, with commands that wait, with shards LOCKED, with a part of a command, twice; what was ANSWERED is still told, and what it did not come to do is not done.
func TestClose(t *testing.T) {
	for when, script := range map[string][]string{
		"nothing":           nil,
		"answered":          {"1: PING", "pick 1"},
		"one waits":         {"1: SET k 5"},
		"several wait":      {"1: PING", "pick 1", "1: SET k 5", "1: TAKE x c:1:5", "1: SET k 6"},
		"one shard":         {"1: TAKE " + wish(4, 5, 0, 3), "1: SET k 5", "pick 1"},
		"all shards":        {"1: PING", "pick 1", "1: TAKE " + wish(4, 5, 0, 1, 2, 3), "pick 1", "pick 1", "pick 1", "pick 1"},
		"a part":            {"1: PING", "pick 1", "1< " + row("SET k 5")[:20]},
		"all but one byte":  {"1< " + row("SET k 5")[:len(row("SET k 5"))-1]},
		"a part behind one": {"1: SET k 5", "1< *"},
		"WRONG":             {"1: SET k 5", "1< x"},
	} {
		s := begun(t, 4, 3)
		do(t, s, script...)
		out, done := string(s.Out(1)), len(s.History())
		do(t, s, "2: TAKE "+wish(4, 5, 0, 1, 2, 3), "close 1")
		checkOut(t, s, 1, out)
		checkWaiting(t, s, 0, 0, 1)
		checkFree(t, s)
		checkLive(t, s, 0, 2)
		checkRunnable(t, s, 2)
		do(t, s, "!close 1", "!1: PING", "!1< "+row("SET k 5")[20:], "!pick 1")
		checkOut(t, s, 1, out)
		do(t, s, "pick 2", "pick 2", "pick 2", "pick 2", "pick 2", "2: GET k", "pick 2")
		checkOut(t, s, 2, "+OK\r\n$-1\r\n")
		checkOut(t, s, 1, out)
		if n := len(s.History()); n != done+2 {
			t.Fatal(when, n, done)
		}
	}
}

package server

import (
	"slices"
	"strconv"
	"testing"

	"tapster/api"
)

// states are Servers in which much may happen, each told anew.
func states(t testing.TB) map[string]func() *Server {
	t.Helper()
	return map[string]func() *Server{
		"new":  func() *Server { return New(2, 9, 9) },
		"idle": func() *Server { return begun(t, 2, 3) },
		"waiting": func() *Server {
			s := begun(t, 2, 4)
			do(t, s, "tick 7", "0: PING", "1: TAKE "+wish(2, 2, 1, 0), "2: TAKE "+wish(2, 1, 1), "3: STATS", "3: STATS")
			return s
		},
		"locked": func() *Server {
			s := begun(t, 2, 4)
			do(t, s, "tick 7", "0: TAKE "+wish(2, 4, 0, 1), "1: TAKE "+wish(2, 2, 1, 0), "2: TAKE "+wish(2, 1, 1), "pick 2", "pick 0", "3< "+row("STATS")[:9])
			return s
		},
		"gone": func() *Server {
			s := begun(t, 2, 5)
			do(t, s, "tick 7", "1: TAKE "+wish(2, 2, 1), "pick 1", "close 1", "2< x", "3: PING", "3< x", "4: TAKE "+wish(2, 2, 0), "pick 4")
			return s
		},
		"full": func() *Server { return begun(t, 2, api.MaxConns) },
	}
}

// checkNothing holds that an act is not done, and that nothing is changed by that, of whatever tell makes.
func checkNothing(t testing.TB, when string, tell func() *Server, l ...api.Do) {
	t.Helper()
	s := tell()
	for _, d := range l {
		before := told(t, s)
		if s.Act(d) {
			t.Fatalf("%s: %+v is done", when, d)
		}
		if after := told(t, s); after != before {
			t.Fatalf("%s: %+v changes it: %s\nnot %s", when, d, after, before)
		}
		if n := s.Run(d, d); n != 0 {
			t.Fatalf("%s: %+v is done %d times", when, d, n)
		}
	}
	checkSame(t, when, s, tell())
}

// TestNoKind: what is none of the five is not done, whatever else stands there.
func TestNoKind(t *testing.T) {
	var l []api.Do
	for _, kind := range []int{0, -1, least, 6, 7, 100, 1<<32 + 1, 1<<32 + 4, most} {
		for _, conn := range []int{-1, 0, 1, 4, most} {
			l = append(l, api.Do{Kind: kind, Conn: conn}, api.Do{Kind: kind, Conn: conn, N: 99, Data: []byte(row("PING"))})
		}
	}
	for when, tell := range states(t) {
		checkNothing(t, when, tell, l...)
	}
}

// TestOpen: the first one is 0, each further one 1 more, till there are MaxConns; those that were closed, or ended, count.
func TestOpen(t *testing.T) {
	for _, gone := range [][]int{nil, {0}, {49}, {3, 30, 48}} {
		tell := func() *Server {
			s := New(2, 9, 9)
			var live []int
			for conn := range 50 {
				do(t, s, "!"+strconv.Itoa(conn)+": PING", "!pick "+strconv.Itoa(conn), "!close "+strconv.Itoa(conn), "open")
				if slices.Contains(gone, conn) {
					do(t, s, []string{"close " + strconv.Itoa(conn), strconv.Itoa(conn) + "< x"}[conn%2])
				} else {
					live = append(live, conn)
				}
				checkLive(t, s, live...)
			}
			checkRunnable(t, s)
			checkFree(t, s)
			return s
		}
		checkNothing(t, "full", tell, act("open"), api.Do{Kind: api.DoOpen, Conn: 60, N: 1, Data: []byte("x")})
	}
	s := New(1, 1, 1)
	for conn := range 50 {
		do(t, s, "open", "close "+strconv.Itoa(conn))
	}
	do(t, s, "!open", "!open")
	checkLive(t, s)
}

// TestNewConnection: nothing was ANSWERED by it, and nothing waits, whatever others did ahead of it.
func TestNewConnection(t *testing.T) {
	tells := states(t)
	for when, conn := range map[string]int{"new": 0, "idle": 3, "waiting": 4, "locked": 4, "gone": 5} {
		s := tells[when]()
		do(t, s, "open")
		if s.Waiting(conn) != 0 || len(s.Out(conn)) != 0 || !s.Live(conn) {
			t.Fatal(when, conn, s.Waiting(conn), s.Out(conn), s.Live(conn))
		}
		do(t, s, strconv.Itoa(conn)+": PING", "pick "+strconv.Itoa(conn))
		checkOut(t, s, conn, "+PONG\r\n")
	}
}

// toOne are the acts that are done to one connection.
func toOne(conn int) []api.Do {
	n := strconv.Itoa(conn)
	return []api.Do{act(n + ": PING"), act(n + "< "), act(n + "< x"), act("pick " + n), act("close " + n), {Kind: api.DoBytes, Conn: conn}}
}

// TestNobody: of a connection that is none, or was closed, or ended, nothing is done.
func TestNobody(t *testing.T) {
	for when, tell := range states(t) {
		var l []api.Do
		s := tell()
		for _, conn := range append(edges(), 3, 4, 5, 49, 50, 51) {
			if !s.Live(conn) {
				l = append(l, toOne(conn)...)
			}
		}
		checkNothing(t, when, tell, l...)
	}
	checkLive(t, states(t)["gone"](), 0, 3, 4)
	checkLive(t, states(t)["waiting"](), 0, 1, 2, 3)
}

// TestGone: of one that was closed, and of one that ended, nothing else is done, and what else there is goes on.
func TestGone(t *testing.T) {
	for _, end := range [][]string{{"close 1"}, {"1< x"}, {"1: TAKE " + wish(2, 1, 0), "pick 1", "close 1"}, {"1: PING", "1< x", "pick 1"}, {"1< *1\r\n", "close 1"}} {
		tell := func() *Server {
			s := begun(t, 2, 3)
			do(t, s, end...)
			return s
		}
		checkNothing(t, "gone", tell, toOne(1)...)
		s := tell()
		checkLive(t, s, 0, 2)
		checkWaiting(t, s)
		do(t, s, "2: PING", "pick 2", "0: PING", "pick 0", "open", "3: PING", "!1: PING", "pick 3", "!pick 1")
		for _, conn := range []int{2, 3} {
			checkOut(t, s, conn, "+PONG\r\n")
		}
	}
}

// TestWrongReader: where the reader is Wrong no bytes are taken any more, not even none, while commands wait.
func TestWrongReader(t *testing.T) {
	for _, bytes := range []string{"x", "*0\r\n", row("PING") + "x", row("PING", "PING") + "*1\r\n$1\r\nab"} {
		tell := func() *Server {
			s := begun(t, 2, 2)
			do(t, s, "1: TAKE "+wish(2, 1, 0, 1), "1< "+bytes)
			return s
		}
		l := []api.Do{act("1: PING"), act("1< "), act("1< x"), {Kind: api.DoBytes, Conn: 1}}
		checkNothing(t, bytes, tell, l...)
		s := tell()
		checkLive(t, s, 0, 1)
		for !t.Failed() && s.Waiting(1) > 0 {
			do(t, s, "pick 1")
			if s.Act(l[0]) {
				t.Fatal("more is taken behind", bytes)
			}
		}
		checkLive(t, s, 0)
	}
}

// TestNotRunnable: who is not RUNNABLE is not picked, for each reason.
func TestNotRunnable(t *testing.T) {
	for when, script := range map[string][]string{
		"nothing came":           nil,
		"a part came":            {"1< " + row("PING")[:13]},
		"all was done":           {"1: PING", "pick 1"},
		"all was done behind it": {"1: TAKE " + wish(2, 1, 0), "pick 1", "pick 1"},
		"the first is LOCKED":    {"2: TAKE " + wish(2, 1, 0), "1: TAKE " + wish(2, 1, 0), "pick 2"},
		"the first of several":   {"2: TAKE " + wish(2, 1, 0), "1: TAKE " + wish(2, 1, 0, 1), "pick 2"},
		"all of them":            {"2: TAKE " + wish(2, 1, 0, 1), "1: TAKE " + wish(2, 1, 0, 1), "pick 2", "pick 2"},
		"the next one is LOCKED": {"2: TAKE " + wish(2, 1, 1), "1: TAKE " + wish(2, 1, 0, 1), "pick 2", "pick 1"},
		"others wait, too":       {"2: TAKE " + wish(2, 1, 1), "1: TAKE " + wish(2, 1, 0, 1), "1: PING", "pick 2", "pick 1", "0: PING"},
		"it is not LIVE":         {"1: PING", "close 1"},
		"it ended":               {"1: PING", "1< x", "pick 1"},
	} {
		tell := func() *Server {
			s := begun(t, 2, 3)
			do(t, s, script...)
			return s
		}
		if l := tell().Runnable(); slices.Contains(l, 1) {
			t.Fatal(when, l)
		}
		checkNothing(t, when, tell, act("pick 1"), api.Do{Kind: api.DoPick, Conn: 1, N: 5, Data: []byte("x")})
	}
}

// TestOtherFields: what a Kind has no use for changes nothing.
func TestOtherFields(t *testing.T) {
	script := []string{
		"open", "tick 5", "open", "0: POLICY c 4 5 100 0 0 0", "pick 0", "0: TAKE " + wish(2, 3, 0, 1), "pick 0", "1: TAKE " + wish(2, 3, 1), "pick 1", "tick 60", "pick 1",
		"pick 0", "open", "2: PING", "2< *1", "close 2", "pick 0", "1< " + row("STATS") + "x", "pick 1", "tick -3", "0: PING", "pick 0",
	}
	tell := func() *Server {
		s := New(2, 9, 9)
		do(t, s, script...)
		return s
	}
	for _, other := range []api.Do{{Conn: -1, N: 7}, {Conn: 1, N: -7, Data: []byte(row("PING"))}, {Conn: 2, N: least, Data: []byte("x")}, {Conn: 99, N: most, Data: []byte{}}} {
		s := New(2, 9, 9)
		for _, text := range script {
			d := act(text)
			if d.Kind == api.DoOpen || d.Kind == api.DoTick {
				d.Conn = other.Conn
			}
			if d.Kind != api.DoTick {
				d.N = other.N
			}
			if d.Kind != api.DoBytes {
				d.Data = other.Data
			}
			if !s.Act(d) {
				t.Fatalf("%+v is not done", d)
			}
		}
		checkSame(t, "other fields", s, tell())
	}
	checkEvents(t, tell(), "0 at 5: POLICY c 4 5 100 0 0 0 = :1", "1 at 60: TAKE "+wish(2, 3, 1)+" = +OK", "0 at 60: TAKE "+wish(2, 3, 0, 1)+" = +OK",
		"1 at 60: STATS = clock 60, policies 1, cells 3, held 0, numbers 0, granted 2, denied 0, unavailable 0", "0 at 60: PING = +PONG")
}

// TestTick: the time of an event is the machine's, which goes on by the READING, and never goes back.
func TestTick(t *testing.T) {
	s := begun(t, 2, 2)
	clock := 0
	for _, n := range slices.Concat([]int{5, 3, 5, 0, 7}, edges(), []int{9, late - 1, least, 0}) {
		do(t, s, "tick "+strconv.Itoa(n), "0: PING", "1: FOO", "pick 0", "pick 1")
		clock = min(max(clock, n), late)
		h := s.History()
		for _, x := range h[len(h)-2:] {
			if x.Now != clock {
				t.Fatalf("at %d: %d, not %d", n, x.Now, clock)
			}
		}
	}
	for _, n := range edges() {
		s = New(1, 1, 1)
		do(t, s, "open", "tick "+strconv.Itoa(n), "0: PING", "pick 0")
		if now := s.History()[0].Now; now != min(max(n, 0), late) {
			t.Fatalf("at %d: %d", n, now)
		}
	}
}

// TestLastReading: what is done is done at the reading of then, not of when it came, or was LOCKED; and of readings between nothing stays.
func TestLastReading(t *testing.T) {
	s := begun(t, 1, 1)
	do(t, s, "tick 3", "0: TAKE - c:0:5", "tick 90", "pick 0", "tick 7", "pick 0", "0: TAKE - c:0:1", "pick 0", "tick 100", "pick 0", "tick 30", "0: PING", "pick 0")
	checkEvents(t, s, "0 at 0: POLICY c 4 5 100 0 0 0 = :1", "0 at 7: TAKE - c:0:5 = +OK", "0 at 100: TAKE - c:0:1 = +OK", "0 at 100: PING = +PONG")
	s = begun(t, 1, 1)
	do(t, s, "tick 9007199254740993", "tick 40", "0: TAKE - c:0:5", "pick 0", "pick 0", "0: TAKE - c:0:1", "tick 9", "pick 0", "pick 0", "tick 99", "0: TAKE - c:0:1", "pick 0", "pick 0")
	checkEvents(t, s, "0 at 0: POLICY c 4 5 100 0 0 0 = :1", "0 at 40: TAKE - c:0:5 = +OK", "0 at 40: TAKE - c:0:1 = -DENIED 60", "0 at 99: TAKE - c:0:1 = -DENIED 1")
}

// TestTickAlone: a reading alone changes nothing that is told.
func TestTickAlone(t *testing.T) {
	for when, tell := range states(t) {
		s, other := tell(), tell()
		for _, x := range []*Server{s, other} {
			x.Run(act("open"), act("0: RESERVE 5 - c:0:1"))
		}
		before := told(t, s)
		for _, n := range edges() {
			do(t, s, "tick "+strconv.Itoa(n))
			if after := told(t, s); after != before {
				t.Fatalf("%s, %d: %s\nnot %s", when, n, after, before)
			}
		}
		// Nor does one that is followed by another one, ahead of all that is done.
		do(t, other, "tick 50")
		do(t, s, "tick 50")
		checkSame(t, when, s, other)
	}
}

// TestRun tells how many were true.
func TestRun(t *testing.T) {
	s := New(1, 9, 9)
	if n := s.Run(); n != 0 {
		t.Fatal(n)
	}
	if n := s.Run(act("open")); n != 1 {
		t.Fatal(n)
	}
	l := []api.Do{act("pick 0"), act("0: POLICY c 4 5 100 0 0 0"), act("pick 0"), act("pick 0"), {}, act("1: PING"), act("open"), act("1: PING"), act("tick -5"), act("close 2"), act("pick 1"), {Kind: 6}, act("close 1"), act("close 1")}
	if n := s.Run(l...); n != 7 {
		t.Fatal(n)
	}
	other := New(1, 9, 9)
	for i, d := range append([]api.Do{act("open")}, l...) {
		want := !slices.Contains([]int{1, 4, 5, 6, 10, 12, 14}, i)
		if other.Act(d) != want {
			t.Fatal(i, d)
		}
	}
	checkSame(t, "one by one", s, other)
	if n := s.Run(slices.Repeat([]api.Do{act("open")}, 60)...); n != 48 {
		t.Fatal(n)
	}
}

package server

import (
	"slices"
	"strconv"
	"strings"
	"testing"

	"tapster/api"
	"tapster/machine"
	"tapster/reply"
)

// TestRunnable: nobody, one, several, rising.
func TestRunnable(t *testing.T) {
	s := New(2, 9, 9)
	checkRunnable(t, s)
	do(t, s, slices.Repeat([]string{"open"}, 50)...)
	checkRunnable(t, s)
	do(t, s, "7: PING")
	checkRunnable(t, s, 7)
	do(t, s, "49: PING", "0: PING", "0: PING", "12: TAKE", "3< "+row("PING")[:13])
	checkRunnable(t, s, 0, 7, 12, 49)
	do(t, s, "pick 7", "pick 0")
	checkRunnable(t, s, 0, 12, 49)
	do(t, s, "close 12", "3< \n", "49< x")
	checkRunnable(t, s, 0, 3, 49)
	do(t, s, "pick 49", "pick 0")
	checkRunnable(t, s, 3)
	do(t, s, "pick 3")
	checkRunnable(t, s)
	for conn := range 48 {
		s.Act(api.Do{Kind: api.DoBytes, Conn: conn, Data: []byte(row("STATS"))})
	}
	if l := s.Runnable(); len(l) != 47 || !slices.IsSorted(l) || slices.Contains(l, 12) {
		t.Fatal(l)
	}
}

// TestTelling: what only tells changes nothing, however often it is asked.
func TestTelling(t *testing.T) {
	for when, tell := range states(t) {
		s := tell()
		for range 3 {
			s.Runnable()
			s.Locks()
			s.History()
			s.Drain(0)
			s.Run()
			for _, conn := range append(edges(), 3, 4, 5) {
				s.Waiting(conn)
				s.Out(conn)
				s.Live(conn)
			}
		}
		checkSame(t, when, s, tell())
	}
	// Nor is a TASK told by it: another one's shards are those of when it is picked.
	a, b := begun(t, 4, 3), begun(t, 4, 3)
	for _, text := range []string{"1: TAKE " + wish(4, 1, 2, 0), "2: DROP c", "2: POLICY c 4 7 100 0 0 0", "pick 2", "pick 2", "pick 1", "tick 9", "pick 1", "1: PING"} {
		for range 3 {
			told(t, a)
		}
		if x, y := a.Act(act(text)), b.Act(act(text)); x != y {
			t.Fatal(text, x, y)
		}
	}
	checkSame(t, "between", a, b)
}

// TestOfNobody: of a connection that is none nothing waits, nothing was ANSWERED, and it is not LIVE; what was ANSWERED by one that was closed, or ended, is still told.
func TestOfNobody(t *testing.T) {
	s := New(1, 1, 1)
	checkLive(t, s)
	checkWaiting(t, s)
	do(t, s, "open", "open", "open", "open", "0: PING", "pick 0", "0: PING", "0: PING", "1: PING", "pick 1", "1: PING", "close 1", "2: PING", "2: PING", "2< x", "pick 2", "pick 2", "3< x")
	for _, conn := range append(edges(), 4, 5, 49, 50) {
		if conn >= 0 && conn < 4 {
			continue
		}
		if s.Waiting(conn) != 0 || len(s.Out(conn)) != 0 || s.Live(conn) {
			t.Fatal(conn, s.Waiting(conn), s.Out(conn), s.Live(conn))
		}
	}
	checkLive(t, s, 0)
	checkWaiting(t, s, 2)
	checkOut(t, s, 0, "+PONG\r\n")
	checkOut(t, s, 1, "+PONG\r\n")
	checkOut(t, s, 2, "+PONG\r\n+PONG\r\n-ERR 7\r\n")
	checkOut(t, s, 3, "-ERR 7\r\n")
}

// TestOut: the bytes of each answer, behind those ahead of it, of each Kind that a machine replies, and of what is WRONG.
func TestOut(t *testing.T) {
	s := begun(t, 2, 2)
	want := ""
	for _, x := range []struct{ line, out string }{
		{"PING", "+PONG\r\n"}, {"POLICY c 4 5 100 0 0 0", ":1\r\n"}, {"TAKE x c:1:3", "+OK\r\n"}, {"TAKE x c:1:3", "-DENIED 100\r\n"}, {"TAKE x c:1:6", "-DENIED -1\r\n"}, {"PEEK x c:1:2", "+OK\r\n"},
		{"RESERVE 5 x c:1:2", ":1\r\n"}, {"COMMIT 1", "+OK\r\n"}, {"COMMIT 1", "-ERR 4\r\n"}, {"GET k", "$-1\r\n"}, {"SET k -9223372036854775808", "+OK\r\n"}, {"GET k", ":-9223372036854775808\r\n"},
		{"FOO", "-ERR 10\r\n"}, {"GET", "-ERR 11\r\n"}, {"TTL l", ":-2\r\n"}, {"DEL k", ":1\r\n"},
		{"STATS", "*8\r\n$7\r\nclock 0\r\n$10\r\npolicies 1\r\n$7\r\ncells 1\r\n$6\r\nheld 0\r\n$9\r\nnumbers 0\r\n$9\r\ngranted 2\r\n$8\r\ndenied 2\r\n$13\r\nunavailable 0\r\n"},
		{"PING", "+PONG\r\n"},
	} {
		do(t, s, "1: "+x.line)
		for s.Waiting(1) > 0 {
			checkOut(t, s, 1, want)
			do(t, s, "pick 1")
		}
		want += x.out
		checkOut(t, s, 1, want)
		checkOut(t, s, 0, ":1\r\n")
	}
	do(t, s, "1< *0")
	checkOut(t, s, 1, want+"-ERR 7\r\n")
	s = New(1, 0, 0)
	do(t, s, "open", "0: POLICY c 4 5 100 0 0 0", "0: TAKE x c:1:3", "0: SET k 5")
	s.Drain(9)
	checkOut(t, s, 0, ":1\r\n-UNAVAILABLE\r\n-ERR 5\r\n")
}

// TestHistory: each event's connection, time, arguments and reply, in the order in which they were done, whoever was closed since; it gets no shorter.
func TestHistory(t *testing.T) {
	s := New(2, 9, 9)
	checkEvents(t, s)
	script := []string{
		"open", "open", "tick 3", "1: POLICY c 4 5 100 0 0 0", "0: policy d 1 1 10 2 0 1", "pick 0", "tick 4", "pick 1", "1: GET k", "tick 2", "1: take x c:1:5", "pick 1", "pick 1", "tick 9", "pick 1", "close 1",
		"0: STATS", "0< x", "tick 7", "pick 0", "open", "2: TAKE x c:1:1", "pick 2", "tick 50", "pick 2", "2: PING", "!pick 0",
	}
	last := 0
	for _, text := range script {
		do(t, s, text)
		n := len(s.History())
		if n < last || n > last+1 || n > last && !strings.HasPrefix(text, "pick") {
			t.Fatal(text, n, last)
		}
		last = n
	}
	checkEvents(t, s,
		"0 at 3: policy d 1 1 10 2 0 1 = :1", "1 at 4: POLICY c 4 5 100 0 0 0 = :2", "1 at 4: GET k = none", "1 at 9: take x c:1:5 = +OK",
		"0 at 9: STATS = clock 9, policies 2, cells 1, held 0, numbers 0, granted 1, denied 0, unavailable 0", "2 at 50: TAKE x c:1:1 = -DENIED 50")
}

// TestTwo: two Servers side by side know nothing of one another; and the same script tells the same again.
func TestTwo(t *testing.T) {
	draw := scattered()
	for range 30 {
		var scripts [2][]api.Do
		for i := range scripts {
			s := New(3, 5, 3)
			w := newWalk(draw, 0, 3)
			do := func(d api.Do) bool {
				scripts[i] = append(scripts[i], d)
				return s.Act(d)
			}
			w.begin(do, " 0", " 1")
			for range 400 {
				do(w.act(s.Runnable()))
				w.keep(s)
			}
		}
		alone := func(i int) *Server {
			s := New(3, 5, 3)
			s.Run(scripts[i]...)
			return s
		}
		a, b := New(3, 5, 3), New(3, 5, 3)
		for i := range max(len(scripts[0]), len(scripts[1])) {
			if i < len(scripts[0]) {
				a.Act(scripts[0][i])
			}
			if i < len(scripts[1]) {
				b.Act(scripts[1][i])
			}
		}
		checkSame(t, "beside another one", a, alone(0))
		checkSame(t, "beside another one", b, alone(1))
		checkSame(t, "again", alone(0), alone(0))
	}
}

// TestNil: of a nil Server, and of one that New did not make, nothing happens, and nothing is told.
func TestNil(t *testing.T) {
	for _, s := range []*Server{nil, {}, new(Server)} {
		for range 2 {
			for _, text := range []string{"open", "tick 5", "0: PING", "0< x", "pick 0", "close 0"} {
				do(t, s, "!"+text)
			}
			for _, d := range []api.Do{{}, {Kind: 6}, {Kind: most}, {Kind: api.DoPick, Conn: -1}} {
				if s.Act(d) {
					t.Fatal(d)
				}
			}
			if s.Run() != 0 || s.Run(act("open"), act("tick 5")) != 0 || s.Drain(5) != 0 || s.Drain(-1) != 0 || len(s.Locks()) != 0 || len(s.History()) != 0 {
				t.Fatal("something is told of nothing")
			}
			checkRunnable(t, s)
			checkLive(t, s)
			checkWaiting(t, s)
			for _, conn := range append(edges(), 49, 50) {
				checkOut(t, s, conn, "")
			}
		}
	}
}

// TestByValue: a Server that was copied by value is still that same one.
func TestByValue(t *testing.T) {
	s := begun(t, 2, 2)
	other := *s
	do(t, &other, "1: TAKE "+wish(2, 1, 0, 1), "pick 1", "open")
	checkLocks(t, s, 1, -1)
	do(t, s, "pick 1", "2: PING")
	checkLocks(t, &other, 1, 1)
	checkLive(t, &other, 0, 1, 2)
}

// fill puts x in all places of l, and behind it, as far as there is room.
func fill[T any](l []T, x T) {
	for i := range cap(l) {
		l[:cap(l)][i] = x
	}
}

// TestHandedIn: what was handed in is neither changed nor kept, although it is written over.
func TestHandedIn(t *testing.T) {
	draw := scattered()
	for range 20 {
		s, plain := New(3, 5, 3), New(3, 5, 3)
		w := newWalk(draw, 0, 3)
		do := func(d api.Do) bool {
			plain.Act(d)
			room := append(slices.Clone(d.Data), "behind it"...)
			l := []api.Do{d, {Kind: 9, Data: room[len(d.Data):]}}
			l[0].Data = room[:len(d.Data)]
			if draw(2) == 0 {
				s.Act(l[0])
			} else {
				s.Run(l...)
			}
			if string(room) != string(d.Data)+"behind it" || l[0].Kind != d.Kind || l[0].Conn != d.Conn || l[0].N != d.N || len(l[0].Data) != len(d.Data) || l[1].Kind != 9 {
				t.Fatalf("%+v: %+v, %q", d, l, room)
			}
			fill(room, '*')
			fill(l, act("close 0"))
			return true
		}
		w.begin(do, " 0", " 1")
		for i := range 400 {
			do(w.act(plain.Runnable()))
			w.keep(plain)
			if i%100 == 0 {
				if x, y := told(t, s), told(t, plain); x != y {
					t.Fatalf("%s\nnot %s", x, y)
				}
			}
		}
		checkSame(t, "written over", s, plain)
	}
}

// spoil writes over all that a Server tells.
func spoil(s *Server) {
	fill(s.Runnable(), 77)
	fill(s.Locks(), 77)
	for conn := range api.MaxConns {
		fill(s.Out(conn), 'x')
	}
	h := s.History()
	for _, x := range h {
		fill(x.Args, "spoilt")
		fill(x.Reply.L, "spoilt")
	}
	fill(h, api.Event{Conn: 77})
}

// TestHandedOut: what came out, spoilt, changes nothing.
func TestHandedOut(t *testing.T) {
	draw := scattered()
	for range 20 {
		s, plain := New(3, 5, 3), New(3, 5, 3)
		w := newWalk(draw, 0, 3)
		do := func(d api.Do) bool {
			spoil(s)
			if x, y := s.Act(d), plain.Act(d); x != y {
				t.Fatalf("%+v: %t", d, x)
			}
			return true
		}
		w.begin(do, " 0", " 1")
		for range 200 {
			do(w.act(plain.Runnable()))
			if draw(20) == 0 {
				do(bytesBy(0, row("STATS")))
			}
			w.keep(plain)
		}
		spoil(s)
		checkSame(t, "spoilt", s, plain)
	}
}

// TestApart: no two lists that come out share anything, of one call or of several.
func TestApart(t *testing.T) {
	s := begun(t, 2, 3)
	do(t, s, "1: STATS", "1: STATS", "2: PING", "1: GET k", "1: TAKE "+wish(2, 1, 0), "2: TAKE "+wish(2, 1, 1), "pick 1", "pick 1", "pick 2", "pick 1", "pick 1")
	a, b := s.History(), s.History()
	want := events(t, s)
	check := func(h []api.Event, but int) {
		t.Helper()
		for i, x := range h {
			if i != but && event(t, x) != want[i] {
				t.Fatalf("%q, not %q", event(t, x), want[i])
			}
		}
	}
	for i := range a {
		args, l := slices.Clone(a[i].Args), slices.Clone(a[i].Reply.L)
		fill(a[i].Args, "spoilt")
		fill(a[i].Reply.L, "spoilt")
		check(a, i)
		check(b, -1)
		copy(a[i].Args, args)
		copy(a[i].Reply.L, l)
	}
	x, y := s.Locks(), s.Locks()
	fill(x, 9)
	if !slices.Equal(y, []int{1, -1}) {
		t.Fatal(y)
	}
	x, y = s.Runnable(), s.Runnable()
	fill(x, 9)
	if !slices.Equal(y, []int{1, 2}) {
		t.Fatal(y)
	}
	out, other := s.Out(1), s.Out(1)
	text := string(out)
	fill(out, 'x')
	if string(other) != text || text == "" {
		t.Fatalf("%q", other)
	}
}

// TestRepliesAsTold: an event's Reply is the machine's own, and its bytes are those that were ANSWERED, though the times and the picks go back and forth.
func TestRepliesAsTold(t *testing.T) {
	draw := scattered()
	kinds := map[int]int{}
	for range 100 {
		s := New(2, 3, 2)
		w := newWalk(draw, 0, 4)
		w.begin(s.Act, " 0", " 1")
		w.script(s, 600)
		outs := map[int]string{}
		m := machine.New(2, 3, 2)
		now := 0
		for _, x := range s.History() {
			want := m.Do(x.Now, x.Args...)
			if !reply.Same(x.Reply, want) || !reply.Right(x.Reply) || x.Now < now {
				t.Fatalf("%s, at %d, not %+v", event(t, x), now, want)
			}
			now = x.Now
			kinds[x.Reply.Kind]++
			outs[x.Conn] += string(reply.Encode(x.Reply))
		}
		for conn := range w.conns {
			out := string(s.Out(conn))
			l, errno := reply.All([]byte(out))
			if errno != api.OK || !strings.HasPrefix(out, outs[conn]) {
				t.Fatalf("by %d: %q, %d", conn, out, errno)
			}
			if rest := out[len(outs[conn]):]; rest != "" && (rest != "-ERR 7\r\n" || s.Live(conn) || s.Act(bytesBy(conn, ""))) {
				t.Fatalf("by %d: %q, of %s", conn, rest, strconv.Itoa(len(l)))
			}
		}
	}
	for _, kind := range []int{api.Simple, api.Error, api.Int, api.Null, api.List} {
		if kinds[kind] < 30 {
			t.Fatal("too little happened to tell:", kinds)
		}
	}
}

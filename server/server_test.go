package server

import (
	"hash/fnv"
	"math"
	"slices"
	"strconv"
	"strings"
	"testing"

	"tapster/api"
	"tapster/machine"
	"tapster/reply"
	"tapster/resp"
)

const (
	most  = math.MaxInt
	least = math.MinInt
	late  = 1 << 53
)

// edges are numbers at which a clip goes wrong, or just doesn't, rising.
func edges() []int {
	return []int{least, least + 1, -1 << 53, -5, -1, 0, 1, 2, 1 << 32, late - 1, late, late + 1, 1 << 62, most - 1, most}
}

// args are the words of a line.
func args(line string) []string {
	return strings.Fields(line)
}

// row are the bytes of the commands of lines.
func row(lines ...string) string {
	var b []byte
	for _, line := range lines {
		b = append(b, resp.Command(args(line)...)...)
	}
	return string(b)
}

// act is the Do of a text: "open", "tick 5", "pick 2", "close 2", of connection 2; "2: PING", of a whole command that comes by it, "2< *1", of bytes.
func act(text string) api.Do {
	conn := len(text) - len(strings.TrimLeft(text, "-0123456789"))
	if conn > 0 {
		n, _ := strconv.Atoi(text[:conn])
		d := api.Do{Kind: api.DoBytes, Conn: n, Data: []byte(text[conn+2:])}
		if text[conn] == ':' {
			d.Data = []byte(row(text[conn+2:]))
		}
		return d
	}
	word, number, _ := strings.Cut(text, " ")
	n, _ := strconv.Atoi(number)
	switch word {
	case "open":
		return api.Do{Kind: api.DoOpen}
	case "tick":
		return api.Do{Kind: api.DoTick, N: n}
	case "pick":
		return api.Do{Kind: api.DoPick, Conn: n}
	case "close":
		return api.Do{Kind: api.DoClose, Conn: n}
	}
	panic("no act: " + text)
}

// do lets happen what texts say; behind a "!" it must not.
func do(t testing.TB, s *Server, texts ...string) {
	t.Helper()
	for i, text := range texts {
		rest, not := strings.CutPrefix(text, "!")
		if s.Act(act(rest)) == not {
			t.Fatalf("the %d. of them, %q: %t", i+1, text, not)
		}
	}
}

// begun is a Server with so many connections, of which the first one laid c: 5 in each time of 100.
func begun(t testing.TB, shards, conns int) *Server {
	t.Helper()
	s := New(shards, 100, 9)
	do(t, s, slices.Repeat([]string{"open"}, conns)...)
	do(t, s, "0: POLICY c 4 5 100 0 0 0", "pick 0")
	return s
}

// keyOf is the key of parts that have neither `:` nor `\`.
func keyOf(name string, version int, parts ...string) string {
	return name + ":" + strconv.Itoa(version) + ":" + strings.Join(append(slices.Clone(parts), ""), ":")
}

// shardOf is where a key belongs.
func shardOf(key string, shards int) int {
	h := fnv.New64a()
	h.Write([]byte(key))
	return int(h.Sum64() % uint64(shards))
}

// wish is a path, and a wish of that cost for each of its depths, by the c of begun: of the first one the key belongs to the first of the shards that are wanted, of so many, and so on.
func wish(shards, cost int, wanted ...int) string {
	var parts []string
	wishes := ""
	for i, shard := range wanted {
		for n := 0; len(parts) == i; n++ {
			if l := append(slices.Clone(parts), "k"+strconv.Itoa(n)); shardOf(keyOf("c", 1, l...), shards) == shard {
				parts = l
			}
		}
		wishes += " c:" + strconv.Itoa(i+1) + ":" + strconv.Itoa(cost)
	}
	return strings.Join(parts, "/") + wishes
}

// said is a Reply as a text: what its Kind has, behind a mark for that; all that it has not is nothing.
func said(t testing.TB, r api.Reply) string {
	t.Helper()
	if !reply.Right(r) || r.Kind == api.Bulk {
		t.Fatalf("a reply that may not be: %+v", r)
	}
	switch r.Kind {
	case api.Simple:
		return "+" + r.Text
	case api.Error:
		return "-" + r.Text
	case api.Int:
		return ":" + strconv.Itoa(r.N)
	case api.List:
		return strings.Join(r.L, ", ")
	default:
		return "none"
	}
}

// event is an Event as a text.
func event(t testing.TB, x api.Event) string {
	t.Helper()
	return strconv.Itoa(x.Conn) + " at " + strconv.Itoa(x.Now) + ": " + strings.Join(x.Args, " ") + " = " + said(t, x.Reply)
}

func events(t testing.TB, s *Server) []string {
	t.Helper()
	var l []string
	for _, x := range s.History() {
		l = append(l, event(t, x))
	}
	return l
}

// numbers are numbers as a text.
func numbers(l []int) string {
	text := ""
	for _, n := range l {
		text += " " + strconv.Itoa(n)
	}
	return text
}

// told is all that a Server tells, as a text.
func told(t testing.TB, s *Server) string {
	t.Helper()
	text := "runnable" + numbers(s.Runnable()) + "\nlocks" + numbers(s.Locks()) + "\n"
	for conn := -2; conn < api.MaxConns+2; conn++ {
		text += strconv.Itoa(s.Waiting(conn)) + " " + strconv.FormatBool(s.Live(conn)) + " " + strconv.Quote(string(s.Out(conn))) + "\n"
	}
	return text + strings.Join(events(t, s), "\n")
}

// checkSame holds that all that is told of both is the same, now and when each one of their connections goes on.
func checkSame(t testing.TB, when string, a, b *Server) {
	t.Helper()
	for _, text := range []string{"", "PING", "STATS"} {
		if x, y := told(t, a), told(t, b); x != y {
			t.Fatalf("%s, %q: %s\nnot %s", when, text, x, y)
		}
		for conn := range api.MaxConns {
			d := api.Do{Kind: api.DoBytes, Conn: conn, Data: []byte(row(text))}
			if text != "" && a.Act(d) != b.Act(d) {
				t.Fatalf("%s: %q by %d", when, text, conn)
			}
		}
		if x, y := a.Drain(10000), b.Drain(10000); x != y {
			t.Fatalf("%s, %q: %d picks, not %d", when, text, x, y)
		}
	}
}

func checkOut(t testing.TB, s *Server, conn int, want string) {
	t.Helper()
	if got := string(s.Out(conn)); got != want {
		t.Fatalf("by %d: %q, not %q", conn, got, want)
	}
}

func checkRunnable(t testing.TB, s *Server, want ...int) {
	t.Helper()
	if got := s.Runnable(); !slices.Equal(got, want) {
		t.Fatalf("runnable: %v, not %v", got, want)
	}
}

func checkLocks(t testing.TB, s *Server, want ...int) {
	t.Helper()
	if got := s.Locks(); !slices.Equal(got, want) {
		t.Fatalf("locks: %v, not %v", got, want)
	}
}

// checkFree holds that nothing is LOCKED.
func checkFree(t testing.TB, s *Server) {
	t.Helper()
	checkLocks(t, s, slices.Repeat([]int{-1}, len(s.Locks()))...)
}

// checkWaiting holds how many commands wait, by each connection from 0 on; by no other one does any.
func checkWaiting(t testing.TB, s *Server, want ...int) {
	t.Helper()
	for conn := -2; conn < api.MaxConns+2; conn++ {
		n := 0
		if conn >= 0 && conn < len(want) {
			n = want[conn]
		}
		if got := s.Waiting(conn); got != n {
			t.Fatalf("by %d: %d wait, not %d", conn, got, n)
		}
	}
}

// checkLive holds that these are LIVE, and no others.
func checkLive(t testing.TB, s *Server, want ...int) {
	t.Helper()
	var got []int
	for conn := -2; conn < api.MaxConns+2; conn++ {
		if s.Live(conn) {
			got = append(got, conn)
		}
	}
	for _, conn := range edges() {
		if s.Live(conn) && (conn < 0 || conn > api.MaxConns) {
			got = append(got, conn)
		}
	}
	if !slices.Equal(got, want) {
		t.Fatalf("live: %v, not %v", got, want)
	}
}

func checkEvents(t testing.TB, s *Server, want ...string) {
	t.Helper()
	if got := events(t, s); !slices.Equal(got, want) {
		t.Fatalf("%q, not %q", got, want)
	}
}

func TestExample(t *testing.T) {
	s := New(1, 1, 1)
	do(t, s, "open", "0< *1\r\n$4\r\nPING\r\n", "pick 0")
	checkOut(t, s, 0, "+PONG\r\n")
}

// TestExampleOfTheWhole is the tenth one.
func TestExampleOfTheWhole(t *testing.T) {
	s := New(3, 9, 9)
	do(t, s, "open", "0: POLICY p 4 5 10 0 0 0", "0: TAKE - p:0:5", "0: TAKE - p:0:1", "pick 0", "pick 0", "pick 0", "tick 3", "pick 0", "pick 0", "!pick 0")
	checkOut(t, s, 0, ":1\r\n+OK\r\n-DENIED 7\r\n")
	checkEvents(t, s, "0 at 0: POLICY p 4 5 10 0 0 0 = :1", "0 at 0: TAKE - p:0:5 = +OK", "0 at 3: TAKE - p:0:1 = -DENIED 7")
}

// TestNew: no connections, no EVENTS, nothing LOCKED, at 0, and a machine without anything.
func TestNew(t *testing.T) {
	for _, shards := range []int{least, -1, 0, 1, 2, 3, 63, 64, 65, most} {
		for _, room := range []int{least, 0, 1, most} {
			for _, count := range []int{least, 0, 1, most} {
				s := New(shards, room, count)
				checkRunnable(t, s)
				checkLive(t, s)
				checkWaiting(t, s)
				checkEvents(t, s)
				checkOut(t, s, 0, "")
				checkLocks(t, s, slices.Repeat([]int{-1}, min(max(shards, 1), 64))...)
				if n := s.Drain(9); n != 0 {
					t.Fatal(n)
				}
				do(t, s, "!pick 0", "!close 0", "!0: PING", "open", "!pick 0", "0: STATS", "pick 0")
				checkEvents(t, s, "0 at 0: STATS = clock 0, policies 0, cells 0, held 0, numbers 0, granted 0, denied 0, unavailable 0")
			}
		}
	}
}

// TestRooms: of so many shards, so much room, and for so many numbers, the same is answered as by a machine.New of these.
func TestRooms(t *testing.T) {
	for _, shards := range []int{least, -1, 0, 1, 2, 64, 65, most} {
		for _, room := range []int{least, -1, 0, 1, 2, 50, most} {
			for _, count := range []int{least, -1, 0, 1, 3, most} {
				s, m := New(shards, room, count), machine.New(shards, room, count)
				lines := []string{"POLICY c 4 5 100 0 0 0"}
				for i := range 9 {
					n := strconv.Itoa(i)
					lines = append(lines, "TAKE k"+n+" c:1:1 c:0:1", "RESERVE 9 l"+n+" c:1:1", "SET n"+n+" 5", "INCRBY n0 7")
				}
				lines = append(lines, "STATS")
				do(t, s, "open", "0< "+row(lines...))
				s.Drain(most)
				h := s.History()
				for i, line := range lines {
					if want := m.Do(0, args(line)...); len(h) != len(lines) || !reply.Same(h[i].Reply, want) {
						t.Fatalf("%d, %d, %d: %q: %+v, not %+v", shards, room, count, line, h[i].Reply, want)
					}
				}
			}
		}
	}
	s := begun(t, 1, 1)
	do(t, s, "0: TAKE a c:1:1", "0: SET k 1")
	s.Drain(9)
	checkOut(t, s, 0, ":1\r\n+OK\r\n+OK\r\n")
	s = New(1, 0, 0)
	do(t, s, "open", "0: POLICY c 4 5 100 0 0 0", "0: TAKE a c:1:1", "0: SET k 1")
	s.Drain(9)
	checkOut(t, s, 0, ":1\r\n-UNAVAILABLE\r\n-ERR 5\r\n")
	s = New(1, 1, 1)
	do(t, s, "open", "0: POLICY c 4 5 100 0 0 0", "0: TAKE a c:1:1", "0: TAKE b c:1:1", "0: SET k 1", "0: SET l 1")
	s.Drain(9)
	checkOut(t, s, 0, ":1\r\n+OK\r\n-UNAVAILABLE\r\n+OK\r\n-ERR 5\r\n")
}

// TestShards: what is LOCKED is the shard of its key, of as many as there may be.
func TestShards(t *testing.T) {
	for _, shards := range []int{least, -1, 0, 1, 2, 3, 10, 63, 64, 65, 1000, most} {
		count := min(max(shards, 1), 64)
		s := begun(t, shards, 1)
		seen := map[int]bool{}
		for i := range 500 {
			part := "k" + strconv.Itoa(i)
			do(t, s, "0: PEEK "+part+" c:1:1", "pick 0")
			want := slices.Repeat([]int{-1}, count)
			shard := shardOf(keyOf("c", 1, part), count)
			want[shard], seen[shard] = 0, true
			checkLocks(t, s, want...)
			do(t, s, "pick 0")
			checkFree(t, s)
		}
		if len(seen) != count {
			t.Fatalf("%d shards: %d are LOCKED", shards, len(seen))
		}
	}
}

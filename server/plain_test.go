package server

import (
	"reflect"
	"slices"
	"strconv"
	"strings"
	"testing"

	"tapster/api"
	"tapster/command"
	"tapster/machine"
	"tapster/reply"
	"tapster/resp"
)

// wire is a connection of the plain server: all bytes that came by it, how many commands of these were told, and so on.
type wire struct {
	fed    string
	told   int
	wrong  bool
	queue  [][]string
	picked bool
	task   []int
	locked int
	out    string
	live   bool
}

// plain is a server that does the chapter's words one by one. It tells how often which way was gone.
type plain struct {
	m       *machine.Machine
	reading int
	wires   []*wire
	// By whom each shard is LOCKED.
	locks  []int
	events []api.Event
	gone   map[string]int
}

func newPlain(shards, room, count int, gone map[string]int) *plain {
	return &plain{m: machine.New(shards, room, count), locks: slices.Repeat([]int{-1}, min(max(shards, 1), 64)), gone: gone}
}

// shardsOf are those of the TASK of x.
func (p *plain) shardsOf(x *wire) []int {
	if x.picked {
		return x.task
	}
	return p.m.Touches(x.queue[0]...)
}

func (p *plain) isRunnable(conn int) bool {
	x := p.wires[conn]
	if !x.live || len(x.queue) == 0 {
		return false
	}
	l := p.shardsOf(x)
	return x.locked == len(l) || p.locks[l[x.locked]] == -1
}

func (p *plain) runnable() []int {
	var l []int
	for conn := range p.wires {
		if p.isRunnable(conn) {
			l = append(l, conn)
		}
	}
	return l
}

// free frees all that was LOCKED by a connection.
func (p *plain) free(conn int) {
	for shard, by := range p.locks {
		if by == conn {
			p.locks[shard] = -1
		}
	}
}

func (p *plain) end(x *wire) {
	if x.wrong && len(x.queue) == 0 {
		x.out += string(reply.Encode(api.Reply{Kind: api.Error, Text: command.Errs(api.ErrProto)}))
		x.live = false
		p.gone["ended"]++
	}
}

func (p *plain) open() bool {
	if len(p.wires) == 50 {
		p.gone["too many connections"]++
		return false
	}
	p.wires = append(p.wires, &wire{live: true})
	return true
}

// bytes reads all that ever came by x from its begin on.
func (p *plain) bytes(x *wire, data []byte) bool {
	if x.wrong {
		p.gone["bytes behind what is WRONG"]++
		return false
	}
	x.fed += string(data)
	all, _, errno := resp.Whole([]byte(x.fed))
	x.queue = append(x.queue, all[x.told:]...)
	if len(all) > x.told+1 {
		p.gone["several commands"]++
	}
	x.told = len(all)
	x.wrong = errno != api.OK
	if x.wrong && len(x.queue) > 0 {
		p.gone["WRONG behind commands"]++
	}
	p.end(x)
	return true
}

func (p *plain) pick(conn int) bool {
	if !p.isRunnable(conn) {
		return false
	}
	x := p.wires[conn]
	if !x.picked {
		x.task, x.picked = p.m.Touches(x.queue[0]...), true
	} else if !slices.Equal(x.task, p.m.Touches(x.queue[0]...)) {
		p.gone["other shards by now"]++
	}
	if x.locked < len(x.task) {
		p.locks[x.task[x.locked]] = conn
		x.locked++
		return true
	}
	args := x.queue[0]
	r := p.m.Do(p.reading, args...)
	p.events = append(p.events, api.Event{Conn: conn, Now: p.m.Now(), Args: args, Reply: r})
	p.note(x, args, r)
	x.out += string(reply.Encode(r))
	x.queue, x.picked, x.task, x.locked = x.queue[1:], false, nil, 0
	p.free(conn)
	p.end(x)
	return true
}

// note counts what is done, and answered.
func (p *plain) note(x *wire, args []string, r api.Reply) {
	word, _, _ := strings.Cut(r.Text, " ")
	if len(args) > 0 {
		p.gone[strings.ToUpper(args[0])+" "+word]++
	}
	p.gone[strconv.Itoa(len(x.task))+" shards"]++
}

// act does what the chapter does.
func (p *plain) act(d api.Do) bool {
	switch d.Kind {
	case api.DoTick:
		p.reading = d.N
		return true
	case api.DoOpen:
		return p.open()
	case api.DoBytes, api.DoPick, api.DoClose:
	default:
		return false
	}
	if d.Conn < 0 || d.Conn >= len(p.wires) || !p.wires[d.Conn].live {
		p.gone["nobody"]++
		return false
	}
	x := p.wires[d.Conn]
	switch d.Kind {
	case api.DoBytes:
		return p.bytes(x, d.Data)
	case api.DoPick:
		done := p.pick(d.Conn)
		p.gone["pick "+strconv.FormatBool(done)]++
		return done
	default:
		if x.locked > 0 {
			p.gone["closed with shards LOCKED"]++
		}
		x.live, x.queue = false, nil
		p.free(d.Conn)
		return true
	}
}

func (p *plain) drain(most int) int {
	n := 0
	for n < most && len(p.runnable()) > 0 {
		p.pick(p.runnable()[0])
		n++
	}
	return n
}

// both are a Server and the plain one.
type both struct {
	s *Server
	p *plain
}

func newBoth(shards, room, count int, gone map[string]int) both {
	return both{New(shards, room, count), newPlain(shards, room, count, gone)}
}

// act does the same to both.
func (b both) act(t testing.TB, d api.Do) bool {
	t.Helper()
	got, want := b.s.Act(d), b.p.act(d)
	if got != want {
		t.Fatalf("%+v: %t", d, got)
	}
	return got
}

// acts does what texts say.
func (b both) acts(t testing.TB, texts ...string) {
	t.Helper()
	for _, text := range texts {
		b.act(t, act(text))
	}
}

func (b both) drain(t testing.TB, most int) int {
	t.Helper()
	got, want := b.s.Drain(most), b.p.drain(most)
	if got != want {
		t.Fatalf("%d picks of %d, not %d", got, most, want)
	}
	return got
}

// check holds that both tell the same, but for what was done ahead of the last command; and what holds of any server.
func (b both) check(t testing.TB) {
	t.Helper()
	runnable := b.s.Runnable()
	if want := b.p.runnable(); !slices.Equal(runnable, want) {
		t.Fatalf("runnable: %v, not %v", runnable, want)
	}
	locks := b.s.Locks()
	if !slices.Equal(locks, b.p.locks) {
		t.Fatalf("locks: %v, not %v", locks, b.p.locks)
	}
	for _, conn := range locks {
		if conn != -1 && (!b.s.Live(conn) || b.s.Waiting(conn) == 0) {
			t.Fatal("nobody waits who LOCKED something:", conn)
		}
	}
	waits := false
	for conn, x := range b.p.wires {
		if b.s.Waiting(conn) != len(x.queue) || b.s.Live(conn) != x.live || string(b.s.Out(conn)) != x.out {
			t.Fatalf("by %d: %d, %t, %q, not %+v", conn, b.s.Waiting(conn), b.s.Live(conn), b.s.Out(conn), x)
		}
		waits = waits || len(x.queue) > 0
	}
	if waits != (len(runnable) > 0) {
		t.Fatal("somebody waits, but nobody may go on")
	}
	if len(b.s.events) != len(b.p.events) {
		t.Fatalf("%d events, not %d", len(b.s.events), len(b.p.events))
	}
}

// checkAll holds that both tell the same, and that of connections that are none nothing is told.
func (b both) checkAll(t testing.TB) {
	t.Helper()
	b.check(t)
	if got := b.s.History(); len(got) != len(b.p.events) || len(got) > 0 && !reflect.DeepEqual(got, b.p.events) {
		t.Fatalf("%+v, not %+v", got, b.p.events)
	}
	for _, conn := range []int{least, -1, len(b.p.wires), 50, most} {
		if b.s.Waiting(conn) != 0 || b.s.Live(conn) || len(b.s.Out(conn)) != 0 {
			t.Fatal("somebody:", conn)
		}
	}
}

// scattered draws numbers from 0 to below count, the same in every run.
func scattered() func(count int) int {
	x := uint64(88172645463325252)
	return func(count int) int {
		x ^= x << 13
		x ^= x >> 7
		x ^= x << 17
		return int((x >> 11) % uint64(count))
	}
}

// one draws one of l.
func one[T any](draw func(count int) int, l ...T) T {
	return l[draw(len(l))]
}

// names are those of all policies of a walk.
func names() []string {
	return []string{"p", "q", "r", "s"}
}

// walk draws what happens to a server, by a clock that leaps.
type walk struct {
	draw  func(count int) int
	clock int
	conns int
	// The ID that was told last.
	id int
	// The bytes of each connection that are on their way.
	sent []string
	// How much a policy's Log remembers, at most.
	cap int
}

func newWalk(draw func(count int) int, clock, conns int) *walk {
	return &walk{draw: draw, clock: clock, conns: conns, sent: make([]string, api.MaxConns+1), cap: 6}
}

// policy is one of each Kind, that grants little.
func (w *walk) policy(open string) string {
	kind := 1 + w.draw(4)
	text := strconv.Itoa(kind) + " " + strconv.Itoa(2+w.draw(6)) + " " + strconv.Itoa(1+w.draw(90))
	switch kind {
	case api.Log:
		return text + " 0 " + strconv.Itoa(w.cap-w.draw(min(w.cap, 6))) + open
	case api.Count:
		return text + " 0 0" + open
	default:
		return text + " " + strconv.Itoa(2+w.draw(6)) + " 0" + open
	}
}

// wishes are a path, and up to four wishes of it, mostly such as may be.
func (w *walk) wishes() string {
	path := one(w.draw, "-", "a", "b", "a/b", "b/a", "a/b/c", "c", "c/c")
	deep := 0
	if path != "-" {
		deep = strings.Count(path, "/") + 1
	}
	text := path
	for range 1 + w.draw(4) {
		name, deep, cost := one(w.draw, names()...), w.draw(deep+1), 1+w.draw(3)
		switch w.draw(100) {
		case 0:
			name = "none"
		case 1:
			deep += 4
		case 2:
			cost = 1 << 20
		}
		text += " " + name + ":" + strconv.Itoa(deep) + ":" + strconv.Itoa(cost)
	}
	return text
}

// held is one of the IDs that were told last, mostly.
func (w *walk) held() string {
	return strconv.Itoa(max(w.id+1-w.draw(6), 0))
}

// keep keeps what a Server told last.
func (w *walk) keep(s *Server) {
	w.conns = len(s.connections)
	if n := len(s.events); n > 0 && strings.HasPrefix(s.events[n-1].Args[0], "RESERVE") && s.events[n-1].Reply.Kind == api.Int {
		w.id = s.events[n-1].Reply.N
	}
}

// line is any command.
func (w *walk) line() string {
	key := one(w.draw, "k", "l", "m")
	switch w.draw(30) {
	case 0:
		return "POLICY " + one(w.draw, names()...) + " " + w.policy(one(w.draw, " 0", " 0", " 1"))
	case 1:
		return one(w.draw, "DROP ", "POLICY p 9 ", "STATS ", "PING ") + one(w.draw, append(names(), "none")...)
	case 2:
		return one(w.draw, "PING", "STATS", "FOO", "TAKE", "GET", "SET k x", "COMMIT 0", "TTL "+key, "DEL "+key, "POLICY p 9 1 1 1 1 1")
	case 3:
		return "SET " + key + " " + strconv.Itoa(w.draw(9))
	case 4:
		return "INCRBY " + key + " " + one(w.draw, "5", "-5", "9223372036854775807")
	case 5:
		return one(w.draw, "GET ", "GET ", "TTL ") + key
	case 6:
		return "EXPIRE " + key + " " + strconv.Itoa(w.draw(30))
	case 7, 8, 9:
		return "COMMIT " + w.held() + one(w.draw, "", "", " 0", " 1", " 2")
	case 10, 11:
		return "CANCEL " + w.held()
	case 12, 13, 14, 15, 16:
		return "RESERVE " + strconv.Itoa(w.draw(60)) + " " + w.wishes()
	case 17, 18:
		return "PEEK " + w.wishes()
	default:
		return "TAKE " + w.wishes()
	}
}

// piece is bytes of a connection: what is on its way, all of it or some, or nothing.
func (w *walk) piece(conn int) string {
	if conn < 0 || conn >= len(w.sent) {
		return row("PING")
	}
	if w.sent[conn] == "" {
		for range 1 + w.draw(3) {
			w.sent[conn] += row(w.line())
		}
		if w.draw(60) == 0 {
			w.sent[conn] += one(w.draw, "x", "*0\r\n", "*1\r\n$-1\r\n", "\r\n") + row("PING")
		}
	}
	n := len(w.sent[conn])
	if w.draw(3) == 0 {
		n = w.draw(n + 1)
	}
	piece := w.sent[conn][:n]
	w.sent[conn] = w.sent[conn][n:]
	return piece
}

// reading is the clock's, mostly, or an earlier one, or one at an edge.
func (w *walk) reading() int {
	w.clock += w.draw(12)
	switch w.draw(30) {
	case 0, 1, 2:
		return w.clock - w.draw(100)
	case 3:
		return one(w.draw, least, -1, 0, 1)
	default:
		return w.clock
	}
}

// conn is one of those that there are, mostly.
func (w *walk) conn() int {
	if w.draw(200) == 0 {
		return one(w.draw, least, -1, w.conns, 50, most)
	}
	return w.draw(max(w.conns, 1))
}

// act is anything that happens; runnable may be picked.
func (w *walk) act(runnable []int) api.Do {
	conn := w.conn()
	switch x := w.draw(100); {
	case x < 8:
		return api.Do{Kind: api.DoTick, N: w.reading()}
	case x < 30:
		return api.Do{Kind: api.DoBytes, Conn: conn, Data: []byte(w.piece(conn))}
	case x < 31:
		return api.Do{Kind: one(w.draw, 0, -1, 6, least, most), Conn: conn, N: 5, Data: []byte("x")}
	case x < 33:
		return api.Do{Kind: api.DoOpen}
	case x < 34:
		return api.Do{Kind: api.DoClose, Conn: one(w.draw, append(slices.Clip(runnable), conn)...)}
	case x < 45 || len(runnable) == 0:
		return api.Do{Kind: api.DoPick, Conn: conn}
	default:
		return api.Do{Kind: api.DoPick, Conn: one(w.draw, runnable...)}
	}
}

// step lets one thing happen to both.
func (w *walk) step(t testing.TB, b both) {
	t.Helper()
	if w.draw(60) == 0 {
		b.drain(t, w.draw(9)-1)
		return
	}
	b.act(t, w.act(b.p.runnable()))
	w.keep(b.s)
}

// begin opens all connections, and lays a policy of each name.
func (w *walk) begin(do func(d api.Do) bool, open ...string) {
	for range w.conns {
		do(act("open"))
	}
	for _, name := range names() {
		do(bytesBy(0, row("POLICY "+name+" "+w.policy(one(w.draw, open...)))))
		do(act("pick 0"))
	}
}

// TestScripts is the first promise: drawn scripts, by servers of many shards and rooms and the plain one, end without a panic and tell the same; and as long as somebody waits, somebody may go on.
func TestScripts(t *testing.T) {
	gone := map[string]int{}
	draw := scattered()
	for _, shards := range []int{least, 0, 1, 2, 3, 4, 64, 65} {
		for _, room := range []int{-1, 0, 1, 2, 5, 100} {
			for _, count := range []int{0, 2} {
				for _, conns := range []int{1, 2, 3, 6} {
					b := newBoth(shards, room, count, gone)
					w := newWalk(draw, one(draw, 0, 100, late-700), conns)
					w.begin(func(d api.Do) bool { return b.act(t, d) }, " 0", " 1")
					for step := range 400 {
						w.step(t, b)
						b.check(t)
						if step%50 == 0 {
							b.checkAll(t)
						}
					}
					b.checkAll(t)
				}
			}
		}
	}
	for _, way := range []string{
		"nobody", "pick true", "pick false", "closed with shards LOCKED", "other shards by now", "ended", "WRONG behind commands", "bytes behind what is WRONG", "several commands",
		"0 shards", "1 shards", "2 shards", "3 shards", "4 shards", "TAKE OK", "TAKE DENIED", "TAKE UNAVAILABLE", "TAKE ERR", "PEEK OK", "PEEK DENIED", "RESERVE ", "RESERVE DENIED", "COMMIT OK", "COMMIT ERR", "CANCEL OK", "CANCEL ERR",
		"SET OK", "GET ", "INCRBY ERR", "POLICY ", "DROP ", "STATS ", "PING PONG",
	} {
		if gone[way] < 100 {
			t.Fatal("too little happened to tell:", way, gone[way])
		}
	}
}

// TestManyConnections: as many as there may be, and no more.
func TestManyConnections(t *testing.T) {
	gone := map[string]int{}
	b := newBoth(4, 50, 5, gone)
	w := newWalk(scattered(), 0, 48)
	w.begin(func(d api.Do) bool { return b.act(t, d) }, " 0", " 1")
	for range 6000 {
		w.step(t, b)
	}
	b.checkAll(t)
	b.drain(t, most)
	b.checkAll(t)
	if w.conns != 50 || gone["too many connections"] < 20 {
		t.Fatal("too little happened to tell:", w.conns, gone)
	}
}

// setUp is a server of two shards, of three connections, with policies of little, of which some is held.
func setUp(t testing.TB, room int) both {
	t.Helper()
	b := newBoth(2, room, 1, map[string]int{})
	b.acts(t, "open", "open", "open", "2: POLICY c 4 2 5 0 0 0", "2: POLICY d 1 1 5 2 0 1", "2: RESERVE 3 x c:1:1")
	b.drain(t, 9)
	return b
}

// TestAllShort tries all of some acts, some behind one another, and what comes of these at the end.
func TestAllShort(t *testing.T) {
	line := wish(2, 1, 0, 1)
	for _, x := range []struct {
		depth int
		l     []string
	}{
		{3, []string{"0: TAKE " + line, "1: TAKE " + wish(2, 2, 1), "pick 0", "pick 1", "0: COMMIT 1", "1< x", "close 0", "tick 4", "2: POLICY c 4 1 5 0 0 0", "pick 2", "1: STATS", "open"}},
		{4, []string{"0: TAKE " + line, "1: COMMIT 1", "pick 0", "pick 1", "1< x", "close 0", "tick 4", "2: DROP c"}},
		{5, []string{"0: TAKE " + line, "1: TAKE x c:1:1 d:0:1", "pick 0", "pick 1", "close 1"}},
		{6, []string{"0: TAKE " + line, "1: TAKE " + line, "pick 0", "pick 1"}},
	} {
		var try func(script []string)
		try = func(script []string) {
			if len(script) < x.depth {
				for _, text := range x.l {
					try(append(slices.Clip(script), text))
				}
				return
			}
			b := setUp(t, 9)
			b.acts(t, script...)
			b.check(t)
			b.drain(t, 99)
			b.checkAll(t)
		}
		try(nil)
	}
}

// inEveryOrder goes on by each connection that may, in every order, to the end, and tells in how many ways.
func inEveryOrder(t testing.TB, begin func() both, end func(b both, picks []int)) int {
	t.Helper()
	ways := 0
	var try func(picks []int)
	try = func(picks []int) {
		b := begin()
		for _, conn := range picks {
			if !b.act(t, api.Do{Kind: api.DoPick, Conn: conn}) {
				t.Fatal("not RUNNABLE:", picks)
			}
		}
		b.check(t)
		l := b.s.Runnable()
		for _, conn := range l {
			try(append(slices.Clip(picks), conn))
		}
		if len(l) == 0 {
			b.checkAll(t)
			ways++
			end(b, picks)
		}
	}
	try(nil)
	return ways
}

// TestEveryOrder: two and more connections that want the same shards, in every order of picks: all are done, and are answered as one behind the other.
func TestEveryOrder(t *testing.T) {
	for _, x := range []struct {
		lines []string
		ways  int
	}{
		{[]string{"0: TAKE x c:1:2", "1: TAKE x c:1:1"}, 2},
		{[]string{"0: PING", "1: SET k 5", "2: GET k"}, 6},
		{[]string{"0: TAKE " + wish(2, 2, 0, 1), "1: TAKE " + wish(2, 1, 1, 0)}, 2},
		{[]string{"0: TAKE " + wish(2, 1, 0), "1: TAKE " + wish(2, 1, 1)}, 6},
		{[]string{"0: TAKE " + wish(2, 2, 0, 1), "1: TAKE " + wish(2, 2, 1), "2: TAKE " + wish(2, 2, 0)}, 0},
		{[]string{"0: TAKE " + wish(2, 2, 0, 1), "1: RESERVE 5 " + wish(2, 1, 1, 0), "2: COMMIT 1", "0: STATS"}, 0},
		{[]string{"0: TAKE x c:1:1", "0: TAKE x c:1:1", "1: DROP c", "1: POLICY c 4 1 5 0 0 0", "2: TAKE " + wish(2, 1, 0, 1)}, 0},
		{[]string{"0: TAKE " + wish(2, 2, 1), "0< x", "1: TAKE " + wish(2, 2, 0, 1), "2: CANCEL 1"}, 0},
	} {
		var commands []string
		begin := func() both {
			b := setUp(t, 9)
			b.acts(t, x.lines...)
			return b
		}
		seen := map[string]bool{}
		ways := inEveryOrder(t, begin, func(b both, picks []int) {
			checkFree(t, b.s)
			checkWaiting(t, b.s)
			h := b.s.History()[3:]
			var order []string
			for _, e := range h {
				order = append(order, strconv.Itoa(e.Conn)+": "+strings.Join(e.Args, " "))
			}
			seen[strings.Join(order, ", ")] = true
			checkAgain(t, b.s, 2, 9, 1)
			slices.Sort(order)
			commands = slices.DeleteFunc(slices.Clone(x.lines), func(text string) bool { return strings.Contains(text, "<") })
			slices.Sort(commands)
			if !slices.Equal(order, commands) {
				t.Fatalf("%v: %q, not %q", picks, order, commands)
			}
		})
		if x.ways > 0 && ways != x.ways {
			t.Fatalf("%q in %d ways", x.lines, ways)
		}
		// Whoever is picked first may be done first.
		if want := orders(x.lines); len(seen) != want {
			t.Fatalf("%q in %d orders, not %d", x.lines, len(seen), want)
		}
	}
}

// orders is in how many orders commands may be done, if those of each connection stay in theirs.
func orders(lines []string) int {
	counts := map[byte]int{}
	n := 0
	ways := 1
	for _, line := range lines {
		if strings.Contains(line, "<") {
			continue
		}
		n++
		counts[line[0]]++
		ways = ways * n / counts[line[0]]
	}
	return ways
}

// checkAgain holds that all EVENTS, done again one behind the other by a machine of its own, are answered alike, and that what was ANSWERED by each connection is these answers, in order.
func checkAgain(t testing.TB, s *Server, shards, room, count int) {
	t.Helper()
	m := machine.New(shards, room, count)
	outs := map[int]string{}
	for _, x := range s.History() {
		r := m.Do(x.Now, x.Args...)
		if !reply.Same(r, x.Reply) || m.Now() != x.Now {
			t.Fatalf("%q at %d: %+v at %d, not %+v", x.Args, x.Now, x.Reply, m.Now(), r)
		}
		outs[x.Conn] += string(reply.Encode(r))
	}
	for conn := range api.MaxConns {
		out := string(s.Out(conn))
		if rest := strings.TrimPrefix(out, outs[conn]); out != outs[conn]+rest || rest != "" && (rest != "-ERR 7\r\n" || s.Live(conn)) {
			t.Fatalf("by %d: %q, not %q", conn, out, outs[conn])
		}
	}
}

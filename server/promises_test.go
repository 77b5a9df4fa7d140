package server

import (
	"slices"
	"strconv"
	"strings"
	"testing"

	"tapster/api"
	"tapster/command"
)

// ledger is what EVENTS told: which policies there are, by which versions, and what is held.
type ledger struct {
	laid     map[string]api.Policy
	versions map[string]int
	dues     []api.Due
}

func newLedger() ledger {
	return ledger{map[string]api.Policy{}, map[string]int{}, nil}
}

// limits are those that the wishes of a command come to.
func (l *ledger) limits(c api.Command) []api.Limit {
	var all []api.Limit
	for _, wish := range c.Wishes {
		key := keyOf(wish.Name, l.versions[wish.Name], c.Path[:wish.Deep]...)
		i := slices.IndexFunc(all, func(x api.Limit) bool { return x.Key == key })
		if i < 0 {
			i = len(all)
			all = append(all, api.Limit{Key: key, Policy: l.laid[wish.Name]})
		}
		all[i].Cost += wish.Cost
	}
	return all
}

// lay keeps what a POLICY or a DROP did.
func (l *ledger) lay(c api.Command, r api.Reply) {
	if c.Kind == api.Lay && r.Kind == api.Int {
		l.laid[c.Name], l.versions[c.Name] = c.Policy, r.N
	}
}

// remove takes a Due away, if there is one of that ID.
func (l *ledger) remove(id int) (api.Due, bool) {
	i := slices.IndexFunc(l.dues, func(x api.Due) bool { return x.ID == id })
	if i < 0 {
		return api.Due{}, false
	}
	x := l.dues[i]
	l.dues = slices.Delete(l.dues, i, i+1)
	return x, true
}

// partOf is how much of a cost a COMMIT, or a CANCEL, takes.
func partOf(c api.Command, cost int) int {
	switch {
	case c.Kind == api.CancelOne:
		return 0
	case len(c.Wishes) > 0:
		return min(c.Wishes[0].Cost, cost)
	default:
		return cost
	}
}

// grant is some cost that was taken, or committed, at a time.
type grant struct{ at, cost int }

// account is what was granted of a key.
type account struct {
	policy api.Policy
	grants []grant
	held   int
}

// since is what was granted from a time on.
func (a *account) since(begin int) int {
	n := 0
	for _, x := range a.grants {
		if x.at >= begin {
			n += x.cost
		}
	}
	return n
}

// allowed is whether the policy says that there may be as much at a time as was granted, and is held: by what was granted alone, not by any state.
func (a *account) allowed(at int) bool {
	p := a.policy
	switch p.Kind {
	case api.Log:
		return a.since(at-p.Period+1)+a.held <= p.Limit
	case api.Count:
		return a.since(at-at%p.Period)+a.held <= p.Limit
	}
	// In no time more than what there may be at once, and what came in that time.
	for _, x := range a.grants {
		if (a.since(x.at)+a.held-p.Burst)*p.Period > p.Limit*(at-x.at) {
			return false
		}
	}
	return a.held <= p.Burst
}

// accounts are those of all keys.
type accounts struct {
	ledger
	of map[string]*account
}

func (a *accounts) at(x api.Limit) *account {
	if a.of[x.Key] == nil {
		a.of[x.Key] = &account{policy: x.Policy}
	}
	return a.of[x.Key]
}

// end ends a due: of each cost part of it is granted, and the rest is free.
func (a *accounts) end(x api.Due, now int, part func(cost int) int) {
	for _, y := range x.Limits {
		z := a.at(y)
		z.held -= y.Cost
		if n := part(y.Cost); n > 0 {
			z.grants = append(z.grants, grant{now, n})
		}
	}
}

// add adds an event, and tells the limits of which more was granted, or held, by it.
func (a *accounts) add(x api.Event) []api.Limit {
	for _, y := range slices.Clone(a.dues) {
		if y.Till <= x.Now {
			a.remove(y.ID)
			a.end(y, y.Till, func(int) int { return 0 })
		}
	}
	c, e := command.Parse(x.Args...)
	if e != api.OK || x.Reply.Kind == api.Error {
		return nil
	}
	a.lay(c, x.Reply)
	switch c.Kind {
	case api.TakeAll:
		l := a.limits(c)
		for _, y := range l {
			a.at(y).grants = append(a.at(y).grants, grant{x.Now, y.Cost})
		}
		return l
	case api.ReserveAll:
		l := a.limits(c)
		for _, y := range l {
			a.at(y).held += y.Cost
		}
		a.dues = append(a.dues, api.Due{ID: x.Reply.N, Till: min(x.Now+c.N, late), Limits: l})
		return l
	case api.CommitOne, api.CancelOne:
		y, _ := a.remove(c.N)
		a.end(y, x.Now, func(cost int) int { return partOf(c, cost) })
	}
	return nil
}

// script lets much happen to a Server, as a walk draws it.
func (w *walk) script(s *Server, steps int) {
	for range steps {
		s.Act(w.act(s.Runnable()))
		w.keep(s)
	}
}

// TestEnvelopes is the second promise: of a policy that is not open no more is granted of a key, in any time, than it says, with little room, several connections, and readings that go back.
func TestEnvelopes(t *testing.T) {
	draw := scattered()
	var granted, near [5]int
	for i := range 120 {
		s := New(1+draw(4), []int{1, 2, 4, 100}[i%4], 3)
		w := newWalk(draw, one(draw, 0, 1000, late-3000), 1+draw(4))
		w.begin(s.Act, " 0", " 0", " 1")
		w.script(s, 1500)
		a := &accounts{newLedger(), map[string]*account{}}
		for _, x := range s.History() {
			for _, y := range a.add(x) {
				z := a.at(y)
				if z.policy.Open {
					continue
				}
				if !z.allowed(x.Now) {
					t.Fatalf("%s is too much of %s: %v, %v, %d held", event(t, x), y.Key, z.policy, z.grants, z.held)
				}
				granted[z.policy.Kind]++
				if z.held++; !z.allowed(x.Now) {
					near[z.policy.Kind]++
				}
				z.held--
			}
		}
	}
	if slices.Min(granted[1:]) < 500 || slices.Min(near[1:]) < 200 {
		t.Fatal("too little was granted to tell:", granted, near)
	}
}

// memory is what a key's policy remembers, nanosecond by nanosecond, by nobody's states: what is there of a bucket, what is owed, and each unit that was taken.
type memory struct {
	policy      api.Policy
	level, held int
	units       []int
}

// pass lets one nanosecond pass, to now.
func (m *memory) pass(now int) {
	p := m.policy
	switch p.Kind {
	case api.Bucket:
		m.level = min(m.level+p.Limit, (p.Burst-m.held)*p.Period)
	case api.Gcra:
		m.level = max(m.level-p.Limit, m.held*p.Period)
	case api.Log:
		for len(m.units) > 0 && now-m.units[0] >= p.Period {
			m.units = m.units[1:]
		}
	default:
		if now%p.Period == 0 {
			m.units = nil
		}
	}
}

// room is for how many units there is room.
func (m *memory) room() int {
	p := m.policy
	switch p.Kind {
	case api.Bucket:
		return m.level / p.Period
	case api.Gcra:
		return (p.Burst*p.Period - m.level) / p.Period
	default:
		return p.Limit - m.held - len(m.units)
	}
}

func (m *memory) take(now, cost int) {
	switch m.policy.Kind {
	case api.Bucket:
		m.level -= cost * m.policy.Period
	case api.Gcra:
		m.level += cost * m.policy.Period
	default:
		m.units = append(m.units, slices.Repeat([]int{now}, cost)...)
	}
}

func (m *memory) hold(now, cost int) {
	if m.policy.Kind <= api.Gcra {
		m.take(now, cost)
	}
	m.held += cost
}

func (m *memory) release(now, cost int) {
	if m.policy.Kind <= api.Gcra {
		m.take(now, -cost)
	}
	m.held -= cost
}

func (m *memory) commit(now, cost int) {
	m.held -= cost
	if m.policy.Kind > api.Gcra {
		m.take(now, cost)
	}
}

// world is a memory of each key, and what is held of these.
type world struct {
	ledger
	memories map[string]*memory
	now      int
}

func newWorld() *world {
	return &world{ledger: newLedger(), memories: map[string]*memory{}}
}

// at is the memory of a limit's key; of one that was never there it is as new.
func (w *world) at(x api.Limit) *memory {
	if w.memories[x.Key] == nil {
		m := &memory{policy: x.Policy}
		if x.Policy.Kind == api.Bucket {
			m.level = x.Policy.Burst * x.Policy.Period
		}
		w.memories[x.Key] = m
	}
	return w.memories[x.Key]
}

// to lets time pass; each due is released at its time.
func (w *world) to(now int) {
	w.expire()
	for w.now < now {
		w.now++
		for _, m := range w.memories {
			m.pass(w.now)
		}
		w.expire()
	}
}

func (w *world) expire() {
	for _, x := range slices.Clone(w.dues) {
		if x.Till > w.now {
			continue
		}
		w.remove(x.ID)
		for _, y := range x.Limits {
			w.at(y).release(w.now, y.Cost)
		}
	}
}

// fits tells whether each of l has room.
func (w *world) fits(l []api.Limit) bool {
	return !slices.ContainsFunc(l, func(x api.Limit) bool { return x.Cost > w.at(x).room() })
}

// add adds an event, which has to be answered as what is remembered says: granted, if each key has room, and then charged of each; else denied, and charged of none.
func (w *world) add(t testing.TB, x api.Event) string {
	t.Helper()
	w.to(x.Now)
	c, e := command.Parse(x.Args...)
	if e != api.OK || strings.HasPrefix(x.Reply.Text, "ERR") {
		return "error"
	}
	w.lay(c, x.Reply)
	switch c.Kind {
	case api.CommitOne, api.CancelOne:
		y, there := w.remove(c.N)
		if !there {
			t.Fatal("of what isn't held:", event(t, x))
		}
		for _, z := range y.Limits {
			part := partOf(c, z.Cost)
			w.at(z).commit(w.now, part)
			w.at(z).release(w.now, z.Cost-part)
		}
		return "ended"
	case api.TakeAll, api.PeekAll, api.ReserveAll:
	default:
		return "other"
	}
	l := w.limits(c)
	granted := x.Reply.Kind != api.Error
	if fits := w.fits(l); fits != granted || !granted && !strings.HasPrefix(x.Reply.Text, "DENIED") {
		t.Fatalf("%s, but it fits: %t", event(t, x), fits)
	}
	if !granted {
		return "denied"
	}
	for _, y := range l {
		switch c.Kind {
		case api.TakeAll:
			w.at(y).take(w.now, y.Cost)
		case api.ReserveAll:
			w.at(y).hold(w.now, y.Cost)
		}
	}
	if c.Kind == api.ReserveAll {
		w.dues = append(w.dues, api.Due{ID: x.Reply.N, Till: x.Now + c.N, Limits: l})
	}
	if len(l) > 1 {
		return "granted several"
	}
	return "granted"
}

// TestNotAllIsDenied is the third promise, and with it the fifth: with room enough nothing is told to be UNAVAILABLE; what is denied would be too much of one key at least, as far as its policy remembers, and what is granted of none; and it is charged of all, or of none, however the picks of others come between.
func TestNotAllIsDenied(t *testing.T) {
	draw := scattered()
	counts := map[string]int{}
	apart, between := 0, 0
	for range 60 {
		shards := 1 + draw(5)
		s := New(shards, 1000, 9)
		w := newWalk(draw, 0, 2+draw(4))
		w.cap = api.MaxLog
		w.begin(s.Act, " 0", " 1")
		for range 1500 {
			s.Act(w.act(s.Runnable()))
			w.keep(s)
			// Two have LOCKED something at the same time.
			between += len(slices.Compact(slices.Sorted(slices.Values(s.Locks())))) / 3
		}
		x := newWorld()
		for _, e := range s.History() {
			counts[x.add(t, e)]++
			if strings.HasPrefix(e.Args[0], "TAKE") && e.Reply.Kind == api.Simple && len(e.Args) > 3 {
				apart++
			}
		}
	}
	if counts["granted"] < 1500 || counts["granted several"] < 2000 || counts["denied"] < 2000 || counts["ended"] < 300 || counts["error"] < 300 || between < 2000 || apart < 1000 {
		t.Fatal("too little happened to tell:", counts, between, apart)
	}
}

// TestAllOrNothing is the fifth promise: costs of several keys, in several shards, by connections whose picks come between one another in every order: as much is charged as if one had come behind the other.
func TestAllOrNothing(t *testing.T) {
	whole, left, right := wish(2, 3, 0, 1), wish(2, 3, 0), ""
	{
		parts := strings.Fields(whole)
		right = parts[0] + " " + parts[2]
	}
	begin := func() both {
		b := newBoth(2, 9, 9, map[string]int{})
		b.acts(t, "open", "open", "open", "0: POLICY c 4 5 100 0 0 0", "pick 0", "0: TAKE "+whole, "1: TAKE "+left, "2: RESERVE 50 "+right)
		return b
	}
	seen := map[string]int{}
	inEveryOrder(t, begin, func(b both, picks []int) {
		answers := ""
		for conn := range 3 {
			text := string(b.s.Out(conn))
			answers += " " + strconv.FormatBool(!strings.Contains(text, "DENIED"))
		}
		seen[answers]++
		// What is left of each key.
		b.acts(t, "0: PEEK "+strings.Replace(left, ":3", ":5", 1), "0: PEEK "+strings.Replace(right, ":3", ":5", 1))
		b.drain(t, 99)
		b.checkAll(t)
		h := b.s.History()
		for i, denied := range []bool{true, true} {
			if r := h[len(h)-2+i].Reply; (r.Kind == api.Error) != denied {
				t.Fatalf("%v: %q", picks, events(t, b.s))
			}
		}
	})
	// Either the one that asks for both was first, and no other one has room; or one of the others was, and then it has none.
	for answers := range seen {
		if answers != " true false false" && answers != " false true true" {
			t.Fatal(seen)
		}
	}
	if len(seen) != 2 {
		t.Fatal(seen)
	}
}

// ask lets a connection ask for something, at a reading, and tells what is answered.
func ask(t testing.TB, s *Server, conn, now int, line string) string {
	t.Helper()
	n := strconv.Itoa(conn)
	do(t, s, "tick "+strconv.Itoa(now), n+": "+line)
	for s.Waiting(conn) > 0 {
		do(t, s, "pick "+n)
	}
	h := s.History()
	return said(t, h[len(h)-1].Reply)
}

// TestRetries is the fourth promise: what is denied is granted when it is told to be, and not before, if nothing is held and nothing else is done.
func TestRetries(t *testing.T) {
	draw := scattered()
	counts := map[string]int{}
	for range 100 {
		s := New(1+draw(4), 1000, 0)
		w := newWalk(draw, one(draw, 0, 1<<50), 3)
		w.begin(s.Act, " 0", " 1")
		for range 60 {
			w.clock += draw(9)
			line := w.wishes()
			conn := draw(3)
			text := ask(t, s, conn, w.clock, "TAKE "+line)
			wait, denied := strings.CutPrefix(text, "-DENIED ")
			if !denied {
				// Some is held for a while, and is committed, or comes back.
				if id := ask(t, s, draw(3), w.clock, "RESERVE 9 "+line); id[0] == ':' {
					ask(t, s, draw(3), w.clock, one(draw, "COMMIT ", "CANCEL ")+id[1:])
				}
				continue
			}
			name := one(draw, "TAKE ", "PEEK ", "RESERVE 5 ")
			n, _ := strconv.Atoi(wait)
			if n < 0 {
				counts["never"]++
				w.clock += draw(300)
				if got := ask(t, s, draw(3), w.clock, name+line); got != text {
					t.Fatalf("%q: %s, not %s", name+line, got, text)
				}
				continue
			}
			counts[name]++
			for _, left := range []int{n, n - n/3, n / 2, 2, 1} {
				if left <= 0 || left > n {
					continue
				}
				if got := ask(t, s, draw(3), w.clock+n-left, name+line); got != "-DENIED "+strconv.Itoa(left) {
					t.Fatalf("%q, %d ahead: %s", name+line, left, got)
				}
				n, w.clock = left, w.clock+n-left
			}
			// It may come early, if it is done then; and a reading that goes back is none.
			c := strconv.Itoa(conn)
			do(t, s, c+": "+name+line, "pick "+c, "tick "+strconv.Itoa(w.clock+n), "tick "+strconv.Itoa(w.clock+n+one(draw, 0, 0, 1)))
			for s.Waiting(conn) > 0 {
				do(t, s, "pick "+c)
			}
			h := s.History()
			if x := h[len(h)-1]; x.Reply.Kind == api.Error {
				t.Fatal(event(t, x))
			}
			w.clock += n + 60
			ask(t, s, 0, w.clock, "STATS")
		}
	}
	if counts["TAKE "] < 150 || counts["PEEK "] < 150 || counts["RESERVE 5 "] < 150 || counts["never"] < 100 {
		t.Fatal("too little was denied to tell:", counts)
	}
}

// TestOneBehindTheOther is the eighth promise: all that is done, done again one behind the other by a machine of its own, is answered alike; each connection's commands are done in the order in which they came, and no other ones; and it can always go on to its end.
func TestOneBehindTheOther(t *testing.T) {
	draw := scattered()
	for i := range 120 {
		shards, room, count := draw(5), []int{0, 1, 2, 50}[i%4], draw(4)
		s := New(shards, room, count)
		w := newWalk(draw, one(draw, 0, 100, late-700), 1+draw(5))
		came := map[int]string{}
		act := func(d api.Do) bool {
			is := s.Act(d)
			if is && d.Kind == api.DoBytes {
				came[d.Conn] += string(d.Data)
			}
			return is
		}
		w.begin(act, " 0", " 1")
		for range 600 {
			act(w.act(s.Runnable()))
			w.keep(s)
		}
		checkDrained(t, s)
		checkAgain(t, s, shards, room, count)
		done := map[int]string{}
		for _, x := range s.History() {
			done[x.Conn] += row(strings.Join(x.Args, " "))
		}
		for conn := range w.conns {
			if !strings.HasPrefix(came[conn], done[conn]) {
				t.Fatalf("by %d: %q, of %q", conn, done[conn], came[conn])
			}
			if behind := came[conn][len(done[conn]):]; s.Live(conn) && strings.Contains(behind, "\r\n*") {
				t.Fatalf("by %d: %q was not done", conn, behind)
			}
		}
	}
}

// checkDrained holds that Drain goes on till nothing waits, and nothing is LOCKED, in no more picks than there are commands that wait times the shards and one.
func checkDrained(t testing.TB, s *Server) {
	t.Helper()
	wait := 0
	for conn := range api.MaxConns {
		wait += s.Waiting(conn)
	}
	if n := s.Drain(most); n > wait*(len(s.Locks())+1) || n < wait {
		t.Fatalf("%d picks for %d commands, of %d shards", n, wait, len(s.Locks()))
	}
	checkWaiting(t, s)
	checkFree(t, s)
	checkRunnable(t, s)
	if n := s.Drain(most); n != 0 {
		t.Fatal(n)
	}
}

// TestDrain: the least one of Runnable is picked, so many times, or till there is none.
func TestDrain(t *testing.T) {
	tell := func() *Server {
		s := begun(t, 4, 5)
		do(t, s, "4: TAKE "+wish(4, 1, 1, 2), "3: PING", "3: TAKE "+wish(4, 2, 1), "1: TAKE "+wish(4, 3, 0, 1), "2: PING", "pick 4", "2: STATS", "2< x")
		return s
	}
	for _, n := range []int{0, -1, least} {
		s := tell()
		if got := s.Drain(n); got != 0 {
			t.Fatal(n, got)
		}
		checkSame(t, "of none", s, tell())
	}
	// 1 waits for 4 then; 2 has nothing to wait for, and ends; 3 has its PING; 4 goes on.
	order := []int{1, 2, 2, 3, 4, 4, 1, 1, 3, 3}
	for n := range len(order) + 1 {
		s, other := tell(), tell()
		if got := s.Drain(n); got != n {
			t.Fatal(n, got)
		}
		for _, conn := range order[:n] {
			if other.Runnable()[0] != conn {
				t.Fatal(other.Runnable(), conn)
			}
			do(t, other, "pick "+strconv.Itoa(conn))
		}
		checkSame(t, "picked", s, other)
	}
	for _, n := range []int{len(order), len(order) + 1, 1000, most} {
		s := tell()
		if got := s.Drain(n); got != len(order) {
			t.Fatal(n, got)
		}
		if got := s.Drain(n); got != 0 {
			t.Fatal(n, got)
		}
		checkWaiting(t, s)
		checkFree(t, s)
		checkLive(t, s, 0, 1, 3, 4)
		checkOut(t, s, 1, "+OK\r\n")
		checkOut(t, s, 3, "+PONG\r\n+OK\r\n")
	}
	s := New(1, 1, 1)
	if n := s.Drain(5); n != 0 {
		t.Fatal(n)
	}
	do(t, s, "open", "open", "open", "0: PING", "1: PING", "2: PING", "close 0")
	if n := s.Drain(1); n != 1 || s.Waiting(1) != 0 || s.Waiting(2) != 1 {
		t.Fatal(n)
	}
}

// TestGoesOn: many that wait for one another, each with many shards, all come to their end.
func TestGoesOn(t *testing.T) {
	draw := scattered()
	for range 40 {
		s := begun(t, 8, 20)
		for conn := range 20 {
			for range 1 + draw(3) {
				shards := []int{0, 1, 2, 3, 4, 5, 6, 7}
				for i := range shards {
					j := i + draw(len(shards)-i)
					shards[i], shards[j] = shards[j], shards[i]
				}
				do(t, s, strconv.Itoa(conn)+": TAKE "+wish(8, 1, shards[:1+draw(8)]...))
			}
		}
		for s.Drain(0) == 0 {
			l := s.Runnable()
			if len(l) == 0 {
				break
			}
			do(t, s, "pick "+strconv.Itoa(one(draw, l...)))
		}
		checkWaiting(t, s)
		checkFree(t, s)
		checkAgain(t, s, 8, 100, 9)
	}
}

// FuzzServer looks for scripts that the walks miss: go test -fuzz=FuzzServer ./server.
func FuzzServer(f *testing.F) {
	f.Add(1, 1, 1, []byte("\x02\x00\x17\x01\x01\x00\x00\x00\x05"))
	f.Add(4, 2, 3, []byte(strings.Repeat("\x01\x19\x00\x01\x12\x03\x02\x01\x00\x04\x37\x01\x42", 20)))
	f.Add(-1, 0, -1, []byte(strings.Repeat("\x09\x17\x01\x02\x03\x04\x05\x06\x07\x08\x30\x31", 20)))
	f.Add(64, 10000, 10000, []byte(strings.Repeat("\x00\x1d\x0f\x0d\x17\x13\x40\x60\x05", 30)))
	f.Fuzz(func(t *testing.T, shards, room, count int, bytes []byte) {
		if len(bytes) > 3000 {
			return
		}
		draw := func(count int) int {
			if len(bytes) == 0 {
				return 0
			}
			n := int(bytes[0])
			bytes = bytes[1:]
			return n % count
		}
		b := newBoth(shards, room, count, map[string]int{})
		w := newWalk(draw, draw(200), 1+draw(5))
		w.begin(func(d api.Do) bool { return b.act(t, d) }, " 0", " 1")
		for len(bytes) > 0 {
			w.step(t, b)
			b.check(t)
		}
		b.checkAll(t)
		checkDrained(t, b.s)
		checkAgain(t, b.s, shards, room, count)
	})
}

package machine

import (
	"reflect"
	"slices"
	"strconv"
	"strings"
	"testing"

	"tapster/api"
	"tapster/book"
	"tapster/command"
	"tapster/limiter"
	"tapster/scope"
	"tapster/store"
	"tapster/vars"
)

// plain is a machine that does the chapter's words one by one, in one function. It tells how often which way was gone.
type plain struct {
	clock   int
	shards  int
	store   *store.Store
	vars    *vars.Vars
	book    *book.Book
	counted map[int]int
	gone    map[string]int
}

func newPlain(shards, room, numbers int, gone map[string]int) *plain {
	return &plain{0, min(max(shards, 1), 64), store.New(shards, room), vars.New(numbers), book.New(), map[int]int{}, gone}
}

func (p *plain) copied() *plain {
	counted := map[int]int{}
	for kind, n := range p.counted {
		counted[kind] = n
	}
	return &plain{p.clock, p.shards, p.store.Copy(), p.vars.Copy(), p.book.Copy(), counted, p.gone}
}

func errorOf(e api.Errno) api.Reply {
	return api.Reply{Kind: api.Error, Text: "ERR " + strconv.Itoa(int(e))}
}

func truthOf(is bool) api.Reply {
	r := api.Reply{Kind: api.Int}
	if is {
		r.N = 1
	}
	return r
}

// do tells what the chapter does.
func (p *plain) do(now int, args []string) api.Reply {
	if now > late {
		now = late
	}
	if now > p.clock {
		p.clock = now
	}
	c, e := command.Parse(args...)
	if e != api.OK {
		return errorOf(e)
	}
	r := api.Reply{Kind: api.Simple, Text: "OK"}
	switch c.Kind {
	case api.Ping:
		r.Text = "PONG"
	case api.Lay:
		var n int
		if n, e = p.book.Lay(c.Name, c.Policy); e == api.OK {
			r = api.Reply{Kind: api.Int, N: n}
		}
	case api.Drop:
		r = truthOf(p.book.Drop(c.Name))
	case api.TakeAll, api.PeekAll, api.ReserveAll:
		r, e = p.ask(c)
	case api.CommitOne:
		if len(c.Wishes) == 1 {
			e = p.store.Commit(p.clock, c.N, c.Wishes[0].Cost)
		} else {
			e = p.store.Commit(p.clock, c.N, -1)
		}
	case api.CancelOne:
		e = p.store.Cancel(p.clock, c.N)
	case api.Set:
		e = p.vars.Set(c.Name, c.N, p.clock)
	case api.Get:
		if n, there := p.vars.Get(c.Name, p.clock); there {
			r = api.Reply{Kind: api.Int, N: n}
		} else {
			r = api.Reply{Kind: api.Null}
		}
	case api.Add:
		var n int
		n, e = p.vars.Add(c.Name, c.N, p.clock)
		r = api.Reply{Kind: api.Int, N: n}
	case api.Delete:
		r = truthOf(p.vars.Delete(c.Name, p.clock))
	case api.Expire:
		r = truthOf(p.vars.Expire(c.Name, c.N, p.clock))
	case api.Left:
		r = api.Reply{Kind: api.Int, N: -2}
		if n, there := p.vars.Left(c.Name, p.clock); there {
			r.N = n
		}
	case api.Stats:
		p.store.Expire(p.clock)
		r = api.Reply{Kind: api.List}
		words := []string{"clock", "policies", "cells", "held", "numbers", "granted", "denied", "unavailable"}
		for i, n := range []int{p.clock, len(p.book.Names()), p.store.Len(), len(p.store.Held()), p.vars.Len(p.clock), p.counted[1], p.counted[2], p.counted[3]} {
			r.L = append(r.L, words[i]+" "+strconv.Itoa(n))
		}
	}
	if e != api.OK {
		return errorOf(e)
	}
	return r
}

func (p *plain) ask(c api.Command) (api.Reply, api.Errno) {
	l, e := scope.Expand(p.book, c.Path, c.Wishes...)
	if e != api.OK {
		return api.Reply{}, e
	}
	var v api.Verdict
	if c.Kind == api.TakeAll {
		v = p.store.Take(p.clock, l...)
	} else if c.Kind == api.PeekAll {
		v = p.store.Peek(p.clock, l...)
	} else {
		v = p.store.Reserve(p.clock, c.N, l...)
	}
	if c.Kind != api.PeekAll {
		p.counted[v.Kind]++
	}
	if v.Kind == api.NoRoom {
		return api.Reply{Kind: api.Error, Text: "UNAVAILABLE"}, api.OK
	}
	if v.Kind == api.Denied {
		if v.Retry > 0 && len(l) > 1 {
			p.gone["denied several"]++
		}
		return api.Reply{Kind: api.Error, Text: "DENIED " + strconv.Itoa(v.Retry)}, api.OK
	}
	if len(l) > 1 {
		p.gone["granted several"]++
	}
	if c.Kind == api.ReserveAll {
		return api.Reply{Kind: api.Int, N: v.ID}, api.OK
	}
	return api.Reply{Kind: api.Simple, Text: "OK"}, api.OK
}

// touches tells the shards of which the chapter speaks.
func (p *plain) touches(args []string) []int {
	c, e := command.Parse(args...)
	if e != api.OK {
		return nil
	}
	var l []api.Limit
	if c.Kind == api.TakeAll || c.Kind == api.PeekAll || c.Kind == api.ReserveAll {
		l, _ = scope.Expand(p.book, c.Path, c.Wishes...)
	}
	if c.Kind == api.CommitOne || c.Kind == api.CancelOne {
		for _, x := range p.store.Held() {
			if x.ID == c.N {
				l = x.Limits
			}
		}
	}
	var all []int
	for shard := range p.shards {
		for _, x := range l {
			if shardOf(x.Key, p.shards) == shard {
				all = append(all, shard)
				break
			}
		}
	}
	if len(all) > 1 {
		p.gone["touches several"]++
	}
	return all
}

// both are a Machine and the plain one.
type both struct {
	m *Machine
	p *plain
}

func newBoth(shards, room, numbers int, gone map[string]int) both {
	return both{New(shards, room, numbers), newPlain(shards, room, numbers, gone)}
}

func (b both) copied() both {
	return both{b.m.Copy(), b.p.copied()}
}

// do does the same to both, and tells what is said of it.
func (b both) do(t testing.TB, now int, args ...string) string {
	t.Helper()
	if got, want := b.m.Touches(args...), b.p.touches(args); !slices.Equal(got, want) {
		t.Fatalf("%.200q touches %v, not %v", args, got, want)
	}
	got, want := b.m.Do(now, args...), b.p.do(now, args)
	text := said(t, got)
	if !reflect.DeepEqual(got, want) && said(t, want) != text {
		t.Fatalf("%.200q at %d: %+v, not %+v", args, now, got, want)
	}
	if b.m.Now() != b.p.clock {
		t.Fatalf("%.200q at %d: %d, not %d", args, now, b.m.Now(), b.p.clock)
	}
	if len(args) > 0 {
		word, _, _ := strings.Cut(text, " ")
		b.p.gone[strings.ToUpper(args[0])+" "+strings.TrimRight(word, "0123456789")]++
	}
	b.p.gone[text]++
	return text
}

// checkAll holds that there is the same in both.
func (b both) checkAll(t testing.TB) {
	t.Helper()
	counts := [3]int{b.p.counted[1], b.p.counted[2], b.p.counted[3]}
	checkSame(t, "both", b.m, &Machine{&engine{b.p.clock, b.p.store, b.p.vars, b.p.book, counts}})
	if got, want := b.m.Held(), b.p.store.Held(); !slices.EqualFunc(got, want, sameDue) {
		t.Fatalf("held: %v, not %v", got, want)
	}
}

// scattered draws numbers from 0 to below count, the same in every run.
func scattered() func(count int) int {
	x := uint64(88172645463325252)
	return func(count int) int {
		x ^= x << 13
		x ^= x >> 7
		x ^= x << 17
		return int((x >> 11) % uint64(count))
	}
}

// one draws one of l.
func one[T any](draw func(count int) int, l ...T) T {
	return l[draw(len(l))]
}

// A walk is commands that are done one behind the other, by a clock that leaps.
type walk struct {
	clock int
	// The ID that was told last, as far as it's known.
	last int
	draw func(count int) int
}

// time is now, mostly, or earlier, or at an edge.
func (w *walk) time() int {
	w.clock += w.draw(12)
	switch w.draw(25) {
	case 0, 1, 2:
		return w.clock - w.draw(100)
	case 3:
		return edges()[w.draw(len(edges())-6)]
	default:
		return w.clock
	}
}

// policy is one of each Kind, that grants little.
func (w *walk) policy() string {
	limit, period := strconv.Itoa(1+w.draw(6)), strconv.Itoa(1+w.draw(90))
	few, open := strconv.Itoa(1+w.draw(6)), one(w.draw, " 0", " 0", " 1")
	kind := 1 + w.draw(4)
	text := strconv.Itoa(kind) + " " + limit + " " + period
	switch kind {
	case 3:
		return text + " 0 " + few + open
	case 4:
		return text + " 0 0" + open
	default:
		return text + " " + few + " 0" + open
	}
}

func (w *walk) name() string {
	if w.draw(40) == 0 {
		return one(w.draw, "none", "P", "p.q")
	}
	return one(w.draw, "p", "q", "r", "s", "t")
}

// wishes are a path, and up to four wishes of it, mostly such as may be.
func (w *walk) wishes() string {
	path := one(w.draw, "-", "a", "b", "a/b", "b/a", "a/b/c", "c", "c/c")
	deep := 0
	if path != "-" {
		deep = strings.Count(path, "/") + 1
	}
	for range 1 + w.draw(4) {
		deep, cost := w.draw(deep+1), 1+w.draw(3)
		switch w.draw(80) {
		case 0:
			deep += 1 + w.draw(3)
		case 1:
			cost = one(w.draw, 0, 7, 1<<20, 1<<20+1)
		}
		path += " " + w.name() + ":" + strconv.Itoa(deep) + ":" + strconv.Itoa(cost)
	}
	return path
}

// id is one of those that were told last, mostly.
func (w *walk) id() string {
	if w.draw(15) == 0 {
		return one(w.draw, "0", "-1", "9007199254740992", strconv.Itoa(w.last+1))
	}
	return strconv.Itoa(max(w.last-w.draw(8), 1))
}

func (w *walk) span() string {
	if w.draw(20) == 0 {
		return one(w.draw, "0", "1", "9007199254740992", "9007199254740993", "-1")
	}
	return strconv.Itoa(w.draw(60))
}

func (w *walk) number() string {
	if w.draw(3) == 0 {
		return one(w.draw, "9223372036854775807", "9223372036854775807", "-9223372036854775808", "-9223372036854775808", "0", "9223372036854775808", "x")
	}
	return strconv.Itoa(w.draw(9) - 4)
}

// line is any command.
func (w *walk) line() string {
	key := one(w.draw, "k", "l", "m", "n")
	switch w.draw(30) {
	case 0:
		return "POLICY " + w.name() + " " + one(w.draw, "", "", "", "", "", "", "", "1") + w.policy()
	case 1:
		return one(w.draw, "PING", "STATS", "STATS", "DROP "+w.name(), "DROP x")
	case 2, 3:
		return "SET " + key + " " + w.number()
	case 4, 5:
		return "INCRBY " + key + " " + w.number()
	case 6:
		return one(w.draw, "GET ", "GET ", "DEL ") + key
	case 7, 8:
		return "TTL " + key
	case 9, 10:
		return "EXPIRE " + key + " " + w.span()
	case 11, 12, 13:
		return "COMMIT " + w.id() + one(w.draw, "", "", " 0", " 1", " 2", " 3", " 1048576", " -1")
	case 14, 15:
		return "CANCEL " + w.id()
	case 16, 17, 18, 19, 20:
		return "RESERVE " + w.span() + " " + w.wishes()
	case 21, 22:
		return "PEEK " + w.wishes()
	default:
		return "TAKE " + w.wishes()
	}
}

// spoilt is a line of which something is left out, is twice there, or is another one.
func (w *walk) spoilt(line string) []string {
	l := args(line)
	i := w.draw(len(l))
	switch w.draw(5) {
	case 0:
		return slices.Delete(l, i, i+1)
	case 1:
		return slices.Insert(l, i, l[i])
	case 2:
		l[i] = one(w.draw, "", "-", "x", "0", "1", "\xff", strings.Repeat("x", 101))
	case 3:
		l[i] = strings.ToLower(l[i])
	default:
		l[i] += one(w.draw, "0", ":", "/", "x", " ")
	}
	return l
}

// step does one command to both, and keeps an ID that is told.
func (w *walk) step(t testing.TB, b both) string {
	t.Helper()
	now, line := w.time(), w.line()
	if w.draw(25) == 0 {
		return b.do(t, now, w.spoilt(line)...)
	}
	text := b.do(t, now, args(line)...)
	w.keep(line, text)
	return text
}

// keep keeps the ID that is said of a line, if one is.
func (w *walk) keep(line, text string) {
	if id, told := strings.CutPrefix(text, ":"); told && strings.HasPrefix(line, "RESERVE") {
		w.last, _ = strconv.Atoi(id)
	}
}

// lay lays a policy of each name.
func (w *walk) lay(do func(line string)) {
	for _, name := range []string{"p", "q", "r", "s", "t"} {
		do("POLICY " + name + " " + w.policy())
	}
}

// laid is a Machine in which there is a policy of each name.
func (w *walk) laid(shards, room, numbers int) *Machine {
	m := New(shards, room, numbers)
	w.lay(func(line string) { m.Do(0, args(line)...) })
	return m
}

// TestAnyInput walks Machines of many shards and rooms, and the plain one, through the same commands: all of them end without a panic and tell the same.
func TestAnyInput(t *testing.T) {
	gone := map[string]int{}
	draw := scattered()
	for _, shards := range []int{least, 1, 2, 3, 64, most} {
		for _, room := range []int{-1, 0, 1, 2, 5, 100, most} {
			for _, numbers := range []int{-1, 0, 1, 3, most} {
				b := newBoth(shards, room, numbers, gone)
				w := &walk{[]int{draw(2000), late - 600}[draw(2)], 0, draw}
				w.lay(func(line string) { b.do(t, 0, args(line)...) })
				for step := range 250 {
					w.step(t, b)
					if step%20 == 0 {
						b.checkAll(t)
					}
					if draw(80) == 0 {
						origin := b
						b = b.copied()
						w.step(t, origin)
						origin.checkAll(t)
						b.checkAll(t)
					}
				}
				b.checkAll(t)
			}
		}
	}
	for _, way := range []string{
		"POLICY :", "POLICY -ERR", "DROP :", "TAKE +OK", "TAKE -DENIED", "TAKE -UNAVAILABLE", "TAKE -ERR", "PEEK +OK", "PEEK -DENIED", "PEEK -ERR", "RESERVE :", "RESERVE -DENIED", "RESERVE -UNAVAILABLE", "RESERVE -ERR",
		"COMMIT +OK", "COMMIT -ERR", "CANCEL +OK", "CANCEL -ERR", "SET +OK", "SET -ERR", "GET :", "GET none", "INCRBY :", "INCRBY -ERR", "DEL :", "EXPIRE :", "TTL :", "TTL :-", "STATS clock", "PING +PONG",
		"-DENIED -1", "-ERR 2", "-ERR 4", "-ERR 5", "-ERR 6", "-ERR 10", "-ERR 11", "granted several", "denied several", "touches several",
	} {
		if gone[way] < 100 {
			t.Fatal("too little happened to tell:", way, gone[way])
		}
	}
	// PEEK asks for no room, and what is denied has none now.
	if gone["PEEK -UNAVAILABLE"] > 0 || gone["-DENIED 0"] > 0 {
		t.Fatal("told of nothing")
	}
}

// TestAllSmall tries all of some commands, up to three behind one another, at times that go on and back.
func TestAllSmall(t *testing.T) {
	gone := map[string]int{}
	l := []string{
		"POLICY p 4 2 3 0 0 0", "DROP p", "TAKE x p:1:1 q:0:1", "TAKE x p:1:2", "PEEK x p:1:2 q:0:2", "RESERVE 2 x p:1:1 q:0:1", "RESERVE 0 - q:0:2", "COMMIT 1 1", "CANCEL 1",
		"SET k 5", "INCRBY k 9223372036854775807", "EXPIRE k 2", "DEL k", "GET k", "TTL k", "STATS", "PING", "TAKE",
	}
	var try func(b both, depth int)
	try = func(b both, depth int) {
		if depth == 0 {
			return
		}
		b.checkAll(t)
		for _, line := range l {
			for _, now := range []int{0, 2} {
				next := b.copied()
				next.do(t, now, args(line)...)
				try(next, depth-1)
			}
		}
	}
	for _, room := range []int{0, 1, 2} {
		b := newBoth(2, room, min(room, 1), gone)
		b.do(t, 0, args("POLICY p 3 2 3 0 5 0")...)
		b.do(t, 0, args("POLICY q 1 1 2 3 0 1")...)
		try(b, 2)
		b.do(t, 0, args("RESERVE 1 x p:1:1")...)
		try(b, 2)
	}
	b := newBoth(2, 1, 1, gone)
	b.do(t, 0, args("POLICY p 3 2 3 0 5 0")...)
	b.do(t, 0, args("POLICY q 1 1 2 3 0 1")...)
	try(b, 3)
}

// grant is some cost that was taken, or committed, at a time.
type grant struct{ at, cost int }

// account is what was granted of a key, as replies told it.
type account struct {
	policy api.Policy
	grants []grant
	held   int
}

// since is what was granted from a time on.
func (a *account) since(begin int) int {
	n := 0
	for _, x := range a.grants {
		if x.at >= begin {
			n += x.cost
		}
	}
	return n
}

// allowed is whether the policy says that there may be as much at a time as was granted, and is held: by what was granted alone, not by any state.
func (a *account) allowed(at int) bool {
	p := a.policy
	switch p.Kind {
	case api.Log:
		return a.since(at-p.Period+1)+a.held <= p.Limit
	case api.Count:
		return a.since(at-at%p.Period)+a.held <= p.Limit
	}
	// In no time more than what there may be at once, and what came in that time.
	for _, x := range a.grants {
		if (a.since(x.at)+a.held-p.Burst)*p.Period > p.Limit*(at-x.at) {
			return false
		}
	}
	return a.held <= p.Burst
}

// client knows of a Machine what its replies told: which policies there are, what was granted, and what is held.
type client struct {
	m        *Machine
	laid     map[string]api.Policy
	versions map[string]int
	accounts map[string]*account
	dues     []api.Due
}

func newClient(m *Machine) *client {
	return &client{m, map[string]api.Policy{}, map[string]int{}, map[string]*account{}, nil}
}

// end ends a due: of each cost most is granted, and the rest is free.
func (c *client) end(x api.Due, now, most int) {
	for _, y := range x.Limits {
		a := c.accounts[y.Key]
		a.held -= y.Cost
		if part := min(most, y.Cost); part > 0 {
			a.grants = append(a.grants, grant{now, part})
		}
	}
	c.dues = slices.DeleteFunc(c.dues, func(y api.Due) bool { return x.ID == y.ID })
}

// limits are those that wishes come to; there is an account of each of their keys then.
func (c *client) limits(x api.Command) []api.Limit {
	costs := map[string]int{}
	for _, wish := range x.Wishes {
		key := keyOf(wish.Name, c.versions[wish.Name], x.Path[:wish.Deep]...)
		costs[key] += wish.Cost
		if c.accounts[key] == nil {
			c.accounts[key] = &account{policy: c.laid[wish.Name]}
		}
	}
	var l []api.Limit
	for key, cost := range costs {
		l = append(l, api.Limit{Key: key, Policy: c.accounts[key].policy, Cost: cost})
	}
	return l
}

// do does a command, and keeps what its reply tells.
func (c *client) do(t testing.TB, now int, line string) string {
	t.Helper()
	text := said(t, c.m.Do(now, args(line)...))
	now = c.m.Now()
	for _, x := range slices.Clone(c.dues) {
		if x.Till <= now {
			c.end(x, x.Till, 0)
		}
	}
	x, _ := command.Parse(args(line)...)
	if strings.HasPrefix(text, "-") {
		return text
	}
	switch x.Kind {
	case api.Lay:
		c.laid[x.Name] = x.Policy
		c.versions[x.Name], _ = strconv.Atoi(text[1:])
	case api.TakeAll:
		for _, y := range c.limits(x) {
			a := c.accounts[y.Key]
			a.grants = append(a.grants, grant{now, y.Cost})
		}
	case api.ReserveAll:
		id, _ := strconv.Atoi(text[1:])
		l := c.limits(x)
		c.dues = append(c.dues, api.Due{ID: id, Till: min(now+x.N, late), Limits: l})
		for _, y := range l {
			c.accounts[y.Key].held += y.Cost
		}
		if x.N == 0 {
			c.end(c.dues[len(c.dues)-1], now, 0)
		}
	case api.CommitOne, api.CancelOne:
		i := slices.IndexFunc(c.dues, func(y api.Due) bool { return y.ID == x.N })
		if i < 0 {
			t.Fatalf("%q, of what isn't held", line)
		}
		part := most
		if x.Kind == api.CancelOne {
			part = 0
		} else if len(x.Wishes) > 0 {
			part = x.Wishes[0].Cost
		}
		c.end(c.dues[i], now, part)
	}
	return text
}

// TestEnvelopes is the second promise: of a policy that is not open no more is granted of a key, in any time, than it says, with little room, and whatever the clock tells.
func TestEnvelopes(t *testing.T) {
	draw := scattered()
	var granted, near [5]int
	for i := range 150 {
		c := newClient(New(1+draw(3), []int{1, 2, 4, 100}[i%4], 3))
		w := &walk{[]int{draw(2000), late - 1500}[draw(2)], 0, draw}
		w.lay(func(line string) { c.do(t, 0, line) })
		for range 400 {
			line := w.line()
			text := c.do(t, w.time(), line)
			w.keep(line, text)
			x, e := command.Parse(args(line)...)
			if e != api.OK || strings.HasPrefix(text, "-") || (x.Kind != api.TakeAll && x.Kind != api.ReserveAll) {
				continue
			}
			for _, y := range c.limits(x) {
				a := c.accounts[y.Key]
				if a.policy.Open {
					continue
				}
				if !a.allowed(c.m.Now()) {
					t.Fatalf("%q at %d is too much of %s: %v, %v, %d held", line, c.m.Now(), y.Key, a.policy, a.grants, a.held)
				}
				granted[a.policy.Kind]++
				if a.held++; !a.allowed(c.m.Now()) {
					near[a.policy.Kind]++
				}
				a.held--
			}
		}
	}
	if slices.Min(granted[1:]) < 800 || slices.Min(near[1:]) < 300 {
		t.Fatal("too little was granted to tell:", granted, near)
	}
}

// TestRetries is the fourth promise: what is denied is granted when it is told to be, and not before, if nothing is held and nothing else is done.
func TestRetries(t *testing.T) {
	draw := scattered()
	told, never, several := 0, 0, 0
	for range 150 {
		w := &walk{[]int{draw(2000), 1 << 50}[draw(2)], 0, draw}
		m := w.laid(1+draw(4), 100, 0)
		for range 80 {
			now, line := w.time(), w.wishes()
			text := said(t, m.Do(now, args("TAKE "+line)...))
			wait, denied := strings.CutPrefix(text, "-DENIED ")
			if !denied {
				// Some is held for a while, and comes back, or is committed.
				if draw(3) == 0 {
					if id := said(t, m.Do(now, args("RESERVE 9 "+line)...)); id[0] == ':' {
						m.Do(now, args([]string{"COMMIT ", "CANCEL "}[draw(2)]+id[1:])...)
					}
				}
				continue
			}
			n, _ := strconv.Atoi(wait)
			name := one(draw, "TAKE ", "PEEK ", "RESERVE 5 ")
			if n < 0 {
				never++
				for _, later := range []int{0, 1, 90, 1000, late} {
					checkTrial(t, m, m.Now()+later, name+line, "-DENIED -1")
				}
				continue
			}
			told++
			if strings.Count(line, ":") > 2 {
				several++
			}
			for _, before := range []int{1, 2, n / 2, n} {
				if before > 0 && before <= n {
					checkTrial(t, m, m.Now()+n-before, name+line, "-DENIED "+strconv.Itoa(before))
				}
			}
			for _, later := range []int{n, n + 1} {
				// The Machine's clock tells so, though the one that is handed in leaps.
				a := m.Copy()
				checkDo(t, a, m.Now()+later, "PING", "+PONG")
				if r := said(t, a.Do(now, args(name+line)...)); strings.HasPrefix(r, "-") {
					t.Fatalf("%q, %d later: %s", line, later, r)
				}
			}
		}
	}
	if told < 1000 || never < 300 || several < 500 {
		t.Fatal("too little was denied to tell:", told, never, several)
	}
}

// TestAllOrNothingDrawn is the fifth promise: what is not granted changes nothing but what is counted, and what is due; of what is granted each key is charged its cost once, and no other one.
func TestAllOrNothingDrawn(t *testing.T) {
	draw := scattered()
	counts := map[string]int{}
	for i := range 100 {
		room := []int{1, 2, 100}[i%3]
		w := &walk{draw(2000), 0, draw}
		m := w.laid(1+draw(4), room, 0)
		for range 100 {
			now, line := w.time(), one(w.draw, "TAKE ", "TAKE ", "RESERVE 40 ")+w.wishes()
			before := m.Copy()
			before.Do(now, "STATS")
			text := said(t, m.Do(now, args(line)...))
			word, _, _ := strings.Cut(text, " ")
			counts[word[:1]+strings.TrimLeft(word[1:], "0123456789")]++
			kind := api.Take
			if line[0] == 'R' {
				kind = api.Hold
			}
			switch word {
			case "-ERR":
				m.Do(now, "STATS")
				checkSame(t, line, m, before)
				continue
			case "-DENIED", "-UNAVAILABLE":
				before.counts = m.counts
				checkSame(t, line, m, before)
				continue
			}
			// Where there is room for all, nothing makes room.
			if room == 100 {
				checkCharged(t, line, kind, before, m)
			}
		}
	}
	if counts["+OK"] < 1000 || counts[":"] < 500 || counts["-DENIED"] < 1000 || counts["-UNAVAILABLE"] < 500 || counts["-ERR"] < 50 {
		t.Fatal("too little happened to tell:", counts)
	}
}

// checkCharged holds that of each key for which line asks its cost was charged, and of no other one.
func checkCharged(t testing.TB, line string, kind int, before, after *Machine) {
	t.Helper()
	c, _ := command.Parse(args(line)...)
	costs := map[string]int{}
	for _, x := range c.Wishes {
		_, version, _ := before.book.Get(x.Name)
		costs[keyOf(x.Name, version, c.Path[:x.Deep]...)] += x.Cost
	}
	seen := 0
	for _, name := range before.book.Names() {
		p, version, _ := before.book.Get(name)
		for _, path := range []string{"", "a", "b", "a/b", "b/a", "a/b/c", "c", "c/c"} {
			var parts []string
			if path != "" {
				parts = strings.Split(path, "/")
			}
			key := keyOf(name, version, parts...)
			want := before.store.Look(key, p, after.Now())
			if cost, asked := costs[key]; asked {
				seen++
				want, _ = limiter.Do(p, want, api.Act{Kind: kind, Now: after.Now(), Cost: cost})
			}
			if got := after.store.Look(key, p, after.Now()); !reflect.DeepEqual(got, want) && (got.At != want.At || got.Level != want.Level || got.Held != want.Held || !slices.Equal(got.Log, want.Log)) {
				t.Fatalf("%q: %s is %v, not %v", line, key, got, want)
			}
		}
	}
	if seen != len(costs) {
		t.Fatalf("%q: %d of %v", line, seen, costs)
	}
}

// TestErrorsChangeNothing: what is answered by an error changes no later answer but what STATS counts.
func TestErrorsChangeNothing(t *testing.T) {
	draw := scattered()
	gone := map[bool]int{}
	for i := range 60 {
		w := &walk{draw(2000), 0, draw}
		m := w.laid(1+draw(3), []int{0, 1, 3, 100}[i%4], 2)
		spared := m.Copy()
		for range 300 {
			now, line := w.time(), w.line()
			l := args(line)
			if draw(8) == 0 {
				l = w.spoilt(line)
			}
			text := said(t, m.Do(now, l...))
			wrong := strings.HasPrefix(text, "-")
			gone[wrong]++
			if wrong {
				spared.Do(now, "PING")
				continue
			}
			w.keep(line, text)
			got := said(t, spared.Do(now, l...))
			if strings.HasPrefix(text, "clock ") {
				text, _, _ = strings.Cut(text, ", denied")
				got, _, _ = strings.Cut(got, ", denied")
			}
			if got != text {
				t.Fatalf("%.200q at %d: %s, not %s", l, now, got, text)
			}
		}
		m.Do(0, "STATS")
		spared.Do(0, "STATS")
		if m.counts[0] != spared.counts[0] || spared.counts[1] != 0 || spared.counts[2] != 0 {
			t.Fatal(m.counts, spared.counts)
		}
		spared.counts = m.counts
		checkSame(t, "without what failed", m, spared)
	}
	if gone[true] < 5000 || gone[false] < 5000 {
		t.Fatal("too little happened to tell:", gone)
	}
}

// event is a command that was done, when by the Machine's own clock, and what was said.
type event struct {
	now  int
	args []string
	said string
}

// TestOneBehindTheOther is the eighth promise: what is answered is told by the commands ahead of it alone, and when these were done; whoever does them again, in one go, or from any copy on, is answered the same, and none of them ever keeps the next one from being done.
func TestOneBehindTheOther(t *testing.T) {
	draw := scattered()
	for i := range 30 {
		shards, room, numbers := 1+draw(4), []int{0, 1, 2, 50}[i%4], draw(4)
		m := New(shards, room, numbers)
		w := &walk{draw(2000), 0, draw}
		var events []event
		copies := map[int]*Machine{}
		for j := range 250 {
			if draw(50) == 0 {
				copies[j] = m.Copy()
			}
			now, line := w.time(), w.line()
			if j < 20 {
				line = "POLICY " + w.name() + " " + w.policy()
			}
			text := said(t, m.Do(now, args(line)...))
			w.keep(line, text)
			events = append(events, event{m.Now(), args(line), text})
		}
		copies[0] = New(shards, room, numbers)
		for begin, a := range copies {
			for _, x := range events[begin:] {
				// What is asked in between changes nothing.
				a.Touches(x.args...)
				a.Held()
				if got := said(t, a.Do(x.now, x.args...)); got != x.said {
					t.Fatalf("%q at %d: %s, not %s", x.args, x.now, got, x.said)
				}
			}
			checkSame(t, "again", a, m)
		}
	}
}

// TestApart: two commands that touch shards, but none that both do, are answered the same whichever is done first, and leave the same.
func TestApart(t *testing.T) {
	draw := scattered()
	changed, gone := 0, 0
	for i := range 100 {
		w := &walk{draw(2000), 0, draw}
		m := w.laid(4+draw(5), []int{1, 2, 50}[i%3], 0)
		for range 150 {
			now, a, b := w.time(), args(w.line()), args(w.line())
			m.Do(now, "STATS")
			x, y := m.Touches(a...), m.Touches(b...)
			both := slices.ContainsFunc(x, func(shard int) bool { return slices.Contains(y, shard) })
			if len(x) > 0 && len(y) > 0 && !both && (a[0] != "RESERVE" || b[0] != "RESERVE") {
				first, second := m.Copy(), m.Copy()
				before, behind := said(t, first.Do(now, a...)), said(t, first.Do(now, b...))
				checkDo(t, second, now, strings.Join(b, " "), behind)
				checkDo(t, second, now, strings.Join(a, " "), before)
				// What is held for no time is due behind the next one.
				first.Do(now, "STATS")
				second.Do(now, "STATS")
				checkSame(t, "the other way", first, second)
				gone++
				if before[0] != '-' && behind[0] != '-' {
					changed++
				}
			}
			w.keep(a[0], said(t, m.Do(now, a...)))
		}
	}
	if gone < 500 || changed < 150 {
		t.Fatal("too little happened to tell:", gone, changed)
	}
}

// FuzzMachine looks for commands that the walks miss: go test -fuzz=FuzzMachine ./machine.
func FuzzMachine(f *testing.F) {
	f.Add(1, 1, 1, []byte("\x02\x00\x17\x01\x01\x00\x00\x00\x05"))
	f.Add(4, 2, 3, []byte(strings.Repeat("\x05\x09\x10\x03\x02\x01\x00\x04\x0b", 20)))
	f.Add(-1, 0, -1, []byte(strings.Repeat("\x09\x17\x01\x02\x03\x04\x05\x06\x07\x08", 20)))
	f.Add(64, 10000, 10000, []byte(strings.Repeat("\x00\x0f\x1d\x07\x13\x0b\x11\x02", 30)))
	f.Fuzz(func(t *testing.T, shards, room, numbers int, bytes []byte) {
		if len(bytes) > 3000 {
			return
		}
		b := newBoth(shards, room, numbers, map[string]int{})
		draw := func(count int) int {
			if len(bytes) == 0 {
				return 0
			}
			n := int(bytes[0])
			bytes = bytes[1:]
			return n % count
		}
		w := &walk{draw(200) * draw(100), 0, draw}
		w.lay(func(line string) { b.do(t, 0, args(line)...) })
		for len(bytes) > 0 {
			w.step(t, b)
			if draw(9) == 1 {
				origin := b
				b = b.copied()
				w.step(t, origin)
				origin.checkAll(t)
			}
			b.checkAll(t)
		}
	})
}

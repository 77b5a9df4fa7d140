package store

import (
	"slices"
	"strconv"
	"testing"

	"tapster/api"
	"tapster/limiter"
)

// stamped is a CELL, and when, of all Sets, it was Set.
type stamped struct {
	cell  api.Cell
	stamp int
}

// plain is a store that does the same without copies and shards: all CELLS stand in one map, and what can't be done to the end is taken back, step by step. It tells how often which way was gone.
type plain struct {
	// How many keys whose sums leave the same by parts may be there.
	parts, room int
	cells       map[string]stamped
	stamp       int
	dues        []api.Due
	last        int
	gone        map[string]int
}

func newPlain(shards, room int, gone map[string]int) *plain {
	return &plain{parts: min(max(shards, 1), 64), room: min(max(room, 0), 10000), cells: map[string]stamped{}, gone: gone}
}

func (p *plain) look(x api.Limit, now int) api.State {
	if y, there := p.cells[x.Key]; there && y.cell.Policy == x.Policy {
		return y.cell.State
	}
	return limiter.New(x.Policy, now)
}

func (p *plain) act(kind, now int, x api.Limit) (api.Cell, bool) {
	s, done := limiter.Do(x.Policy, p.look(x, now), api.Act{Kind: kind, Now: now, Cost: x.Cost})
	return api.Cell{Key: x.Key, Policy: x.Policy, State: s}, done
}

// row are the CELLS of one part, from the one on that was Set first.
func (p *plain) row(part int) []api.Cell {
	var l []stamped
	for key, x := range p.cells {
		if shardOf(key, p.parts) == part {
			l = append(l, x)
		}
	}
	slices.SortFunc(l, func(a, b stamped) int { return a.stamp - b.stamp })
	var row []api.Cell
	for _, x := range l {
		row = append(row, x.cell)
	}
	return row
}

// leaving is who may go from a row.
func leaving(row []api.Cell, now int) (string, bool) {
	for _, x := range row {
		if limiter.Fresh(x.Policy, x.State, now) {
			return x.Key, true
		}
	}
	for _, x := range row {
		if x.Policy.Open && x.State.Held == 0 {
			return x.Key, true
		}
	}
	return "", false
}

// set tells how what it does is taken back; false, if there is no room.
func (p *plain) set(x api.Cell, now int) (func(), bool) {
	before := map[string]stamped{}
	touch := func(key string) {
		if y, there := p.cells[key]; there {
			before[key] = y
			delete(p.cells, key)
		}
	}
	back := func() {
		delete(p.cells, x.Key)
		for key, y := range before {
			p.cells[key] = y
		}
	}
	_, again := p.cells[x.Key]
	if limiter.Fresh(x.Policy, x.State, now) {
		p.gone["made fresh"]++
		touch(x.Key)
		return back, true
	}
	if row := p.row(shardOf(x.Key, p.parts)); !again && len(row) >= p.room {
		key, found := leaving(row, now)
		if !found {
			return nil, false
		}
		p.gone["made room"]++
		touch(key)
	}
	touch(x.Key)
	p.stamp++
	p.cells[x.Key] = stamped{x, p.stamp}
	return back, true
}

// setAll does all, or, if there is no room for one, nothing.
func (p *plain) setAll(l []api.Cell, now int) bool {
	var backs []func()
	for _, x := range l {
		back, done := p.set(x, now)
		if !done {
			p.gone["no room"]++
			if len(backs) > 0 {
				p.gone["taken back"]++
			}
			slices.Reverse(backs)
			for _, back := range backs {
				back()
			}
			return false
		}
		backs = append(backs, back)
	}
	return true
}

func (p *plain) wrong(l []api.Limit) bool {
	for i, x := range l {
		if limiter.Check(x.Policy) != api.OK || x.Cost <= 0 {
			return true
		}
		for _, y := range l[:i] {
			if x.Key == y.Key {
				return true
			}
		}
	}
	return false
}

func (p *plain) denied(now int, l []api.Limit) api.Verdict {
	var waits []int
	for _, x := range l {
		wait, ever := limiter.Retry(x.Policy, p.look(x, now), now, x.Cost)
		if !ever {
			p.gone["never"]++
			return told(api.Denied, -1, 0)
		}
		waits = append(waits, wait)
	}
	p.gone["denied"]++
	return told(api.Denied, slices.Max(waits), 0)
}

// ask does what Take does, by an act of that kind; nothing is Set, if it only looks.
func (p *plain) ask(kind, now int, l []api.Limit, looks bool) api.Verdict {
	p.expire(now)
	if p.wrong(l) {
		p.gone["wrong"]++
		return refused()
	}
	var made []api.Cell
	for _, x := range l {
		y, done := p.act(kind, now, x)
		if !done {
			return p.denied(now, l)
		}
		made = append(made, y)
	}
	if kind == api.Hold && len(p.dues) == 1000 {
		p.gone["full of holds"]++
		return refused()
	}
	if !looks && !p.setAll(made, now) {
		return refused()
	}
	p.gone["granted"]++
	if len(l) > 1 {
		p.gone["granted several"]++
	}
	return granted()
}

func (p *plain) reserve(now, last int, l []api.Limit) api.Verdict {
	v := p.ask(api.Hold, now, l, false)
	if v.Kind == api.Granted {
		p.last++
		v.ID = p.last
		p.dues = append(p.dues, api.Due{ID: p.last, Till: min(clipped(now)+clipped(last), late), Limits: slices.Clone(l)})
	}
	return v
}

func (p *plain) settle(kind, now int, x api.Limit) {
	if x.Cost == 0 {
		return
	}
	y, done := p.act(kind, now, x)
	if !done {
		p.gone["refused"]++
		return
	}
	p.gone["settled"]++
	if _, done := p.set(y, now); !done {
		panic("no room for what is held")
	}
}

func (p *plain) expire(now int) int {
	count := 0
	for {
		next := -1
		for i, x := range p.dues {
			if x.Till <= clipped(now) && (next < 0 || x.Till < p.dues[next].Till) {
				next = i
			}
		}
		if next < 0 {
			break
		}
		due := p.dues[next]
		p.dues = slices.Delete(slices.Clone(p.dues), next, next+1)
		for _, x := range due.Limits {
			p.settle(api.Release, due.Till, x)
		}
		count++
	}
	if count > 1 {
		p.gone["several due"]++
	}
	return count
}

func (p *plain) commit(now, id, most int) api.Errno {
	p.expire(now)
	i := slices.IndexFunc(p.dues, func(x api.Due) bool { return x.ID == id })
	if i < 0 {
		p.gone["no such ID"]++
		return api.ErrNone
	}
	due := p.dues[i]
	p.dues = slices.Delete(slices.Clone(p.dues), i, i+1)
	for _, x := range due.Limits {
		whole := x.Cost
		if most >= 0 && most < whole {
			x.Cost = most
		}
		p.settle(api.Commit, now, x)
		x.Cost = whole - x.Cost
		p.settle(api.Release, now, x)
	}
	p.gone["committed"]++
	return api.OK
}

// both are a Store and the plain one that does the same.
type both struct {
	store *Store
	plain *plain
}

func newBoth(shards, room int, gone map[string]int) both {
	return both{New(shards, room), newPlain(shards, room, gone)}
}

func (b both) copied() both {
	p := *b.plain
	p.cells = map[string]stamped{}
	for key, x := range b.plain.cells {
		p.cells[key] = x
	}
	p.dues = slices.Clone(p.dues)
	return both{b.store.Copy(), &p}
}

func (b both) take(t testing.TB, now int, l ...api.Limit) {
	t.Helper()
	check(t, "Take", b.store.Take(now, l...), b.plain.ask(api.Take, now, l, false))
}

func (b both) peek(t testing.TB, now int, l ...api.Limit) {
	t.Helper()
	check(t, "Peek", b.store.Peek(now, l...), b.plain.ask(api.Take, now, l, true))
}

func (b both) reserve(t testing.TB, now, last int, l ...api.Limit) {
	t.Helper()
	check(t, "Reserve", b.store.Reserve(now, last, l...), b.plain.reserve(now, last, l))
}

func (b both) commit(t testing.TB, now, id, most int) {
	t.Helper()
	checkErrno(t, "Commit", b.store.Commit(now, id, most), b.plain.commit(now, id, most))
}

func (b both) cancel(t testing.TB, now, id int) {
	t.Helper()
	checkErrno(t, "Cancel", b.store.Cancel(now, id), b.plain.commit(now, id, 0))
}

func (b both) expire(t testing.TB, now int) {
	t.Helper()
	if got, want := b.store.Expire(now), b.plain.expire(now); got != want {
		t.Fatalf("Expire(%d): %d, not %d", now, got, want)
	}
}

// look holds what both tell of one key.
func (b both) look(t testing.TB, x api.Limit, now int) {
	t.Helper()
	checkLook(t, "both", b.store, x, now, b.plain.look(x, now))
	if got, want := b.store.Len(), len(b.plain.cells); got != want {
		t.Fatalf("Len: %d, not %d", got, want)
	}
}

// checkAll holds all that is in both.
func (b both) checkAll(t testing.TB) {
	t.Helper()
	if len(b.store.shards) != b.plain.parts {
		t.Fatalf("%d shards, not %d", len(b.store.shards), b.plain.parts)
	}
	for part := range b.plain.parts {
		checkCells(t, "both", b.store, part, b.plain.row(part))
	}
	checkHeld(t, "both", b.store, b.plain.dues...)
	checkNext(t, "both", b.store, b.plain.last+1)
}

// scattered draws numbers from 0 to below count, the same in every run.
func scattered() func(count int) int {
	x := uint64(88172645463325252)
	return func(count int) int {
		x ^= x << 13
		x ^= x >> 7
		x ^= x << 17
		return int((x >> 11) % uint64(count))
	}
}

// drawnPolicies are such as grant little, by all Kinds, Open and not, and some that are remembered for long.
func drawnPolicies() []api.Policy {
	l := small()
	for _, p := range small() {
		l = append(l, open(p))
	}
	return append(l,
		api.Policy{Kind: api.Bucket, Limit: 3, Period: 7, Burst: 5},
		api.Policy{Kind: api.Gcra, Limit: 7, Period: 300, Burst: 4},
		api.Policy{Kind: api.Log, Limit: 6, Period: 400, Cap: 2},
		api.Policy{Kind: api.Count, Limit: 4, Period: 90, Open: true},
		api.Policy{Kind: api.Bucket, Limit: 1, Period: api.MaxPeriod, Burst: api.MaxLimit},
		api.Policy{Kind: api.Log, Limit: api.MaxLimit, Period: api.MaxPeriod, Cap: api.MaxLog})
}

// A walk is what happens to a Store, one call behind the other, by a clock that leaps.
type walk struct {
	keys     []string
	policies []api.Policy
	clock    int
	// How far ahead a Till lies at most.
	ahead int
	draw  func(count int) int
}

// time is now, mostly, or earlier, or at an edge.
func (w *walk) time() int {
	switch w.draw(25) {
	case 0, 1:
		return w.clock - w.draw(100)
	case 2:
		return edges()[w.draw(len(edges())-5)]
	default:
		return w.clock
	}
}

// limits are none to four, mostly such as may be asked for together.
func (w *walk) limits() []api.Limit {
	var l []api.Limit
	first := w.draw(len(w.keys))
	for i := range w.draw(5) {
		// A key has mostly the same policy.
		number := (first + i*(1+w.draw(2))) % len(w.keys)
		x := limit(w.keys[number], w.policies[number%len(w.policies)], 1+w.draw(4))
		switch w.draw(120) {
		case 0:
			x.Cost = []int{0, -1, 11, api.MaxLimit, most, least}[w.draw(6)]
		case 1:
			x.Policy.Limit = -w.draw(2)
		case 2, 3, 4, 5, 6, 7:
			x.Policy = w.policies[w.draw(len(w.policies))]
		}
		if w.draw(9) == 0 || !slices.ContainsFunc(l, func(y api.Limit) bool { return x.Key == y.Key }) {
			l = append(l, x)
		}
	}
	return l
}

// id is one of those that were told last, mostly.
func (w *walk) id(last int) int {
	if w.draw(10) == 0 {
		return []int{least, -1, 0, last + 1, last + 1<<32, most}[w.draw(6)]
	}
	return max(last-w.draw(12), 1)
}

// step does one call to both.
func (w *walk) step(t testing.TB, b both) {
	t.Helper()
	w.clock += w.draw(12)
	now := w.time()
	l := w.limits()
	switch w.draw(12) {
	case 0, 1, 2, 3:
		b.take(t, now, l...)
	case 4:
		b.peek(t, now, l...)
	case 5, 6, 7:
		last := w.draw(w.ahead)
		if w.draw(20) == 0 {
			last = edges()[w.draw(len(edges()))]
		}
		b.reserve(t, now, last, l...)
	case 8, 9:
		b.commit(t, now, w.id(b.plain.last), w.draw(7)-1)
	case 10:
		b.cancel(t, now, w.id(b.plain.last))
	default:
		b.expire(t, now)
	}
	for _, x := range l {
		b.look(t, x, now)
	}
}

// strangeKeys are such as maps may take for one another, or stumble over.
func strangeKeys() []string {
	return []string{"", " ", "\x00", "a", "A", "a\x00", "é", "e\u0301", "\xff", "\ufffd", "a:", `a\:`, "0", "-1"}
}

func namedKeys(count int) []string {
	l := make([]string, count)
	for i := range l {
		l[i] = "k" + strconv.Itoa(i)
	}
	return l
}

// TestAnyInput walks Stores of many shards and rooms, and the plain one, through the same calls: all of them end without a panic and tell the same.
func TestAnyInput(t *testing.T) {
	gone := map[string]int{}
	draw := scattered()
	for _, keys := range [][]string{namedKeys(3), namedKeys(7), namedKeys(20), strangeKeys()} {
		for _, policies := range [][]api.Policy{drawnPolicies(), drawnPolicies()[:4], drawnPolicies()[4:8], drawnPolicies()[:1]} {
			for _, shards := range []int{least, 1, 2, 3, 64} {
				for _, room := range []int{-1, 0, 1, 2, 4, most} {
					b := newBoth(shards, room, gone)
					w := &walk{keys, policies, []int{draw(2000), late - 600}[draw(2)], 1 + draw(300), draw}
					for step := range 120 {
						w.step(t, b)
						if step%8 == 0 {
							b.checkAll(t)
						}
						if draw(40) == 0 {
							origin := b
							b = b.copied()
							b.checkAll(t)
							w.step(t, origin)
							w.step(t, origin)
							origin.checkAll(t)
						}
					}
					b.checkAll(t)
				}
			}
		}
	}
	for _, way := range []string{"wrong", "denied", "never", "no room", "taken back", "made room", "made fresh", "granted", "granted several", "several due", "refused", "settled", "committed", "no such ID"} {
		if gone[way] < 200 {
			t.Fatal("too little happened to tell:", way, gone)
		}
	}
}

// TestFullWalk walks a Store in which there is mostly room for no more holds, or for a few.
func TestFullWalk(t *testing.T) {
	gone := map[string]int{}
	draw := scattered()
	for _, left := range []int{0, 1, 5} {
		b := newBoth(3, 20, gone)
		for i := range 1000 - left {
			b.reserve(t, 0, 40*i)
		}
		w := &walk{namedKeys(30), drawnPolicies()[:12], 0, 4000, draw}
		for range 4000 {
			w.step(t, b)
			// The holds stay many: those that went are made up for.
			for len(b.plain.dues) < 995 {
				b.reserve(t, w.clock, 3000+draw(20000))
			}
		}
		b.checkAll(t)
	}
	for _, way := range []string{"full of holds", "committed", "granted several", "refused", "settled"} {
		if gone[way] < 100 {
			t.Fatal("too little happened to tell:", way, gone)
		}
	}
}

// TestAllSmall tries all calls of a few keys, up to four behind one another, in Stores of which the shards have room for one or two.
func TestAllSmall(t *testing.T) {
	gone := map[string]int{}
	p, q := api.Policy{Kind: api.Log, Limit: 3, Period: 2, Cap: 5}, api.Policy{Kind: api.Bucket, Limit: 1, Period: 1, Burst: 2, Open: true}
	keys := apart(2)
	a, b, c := limit(keys[0], p, 2), limit(keys[1], q, 1), limit("", p, 1)
	var try func(x both, depth int)
	try = func(x both, depth int) {
		x.checkAll(t)
		if depth == 0 {
			return
		}
		after := func(do func(x both)) {
			next := x.copied()
			do(next)
			try(next, depth-1)
		}
		for now := range 3 {
			after(func(x both) { x.reserve(t, now, 2, a, c) })
			after(func(x both) { x.reserve(t, now, 1, b, a) })
			after(func(x both) { x.take(t, now, c, b) })
			after(func(x both) { x.take(t, now, a) })
		}
		after(func(x both) { x.commit(t, 1, 1, 1) })
		after(func(x both) { x.cancel(t, 0, 1) })
		after(func(x both) { x.expire(t, 2) })
		after(func(x both) { x.take(t, 2, limit(a.Key, q, 2)) })
		x.copied().peek(t, 1, a, b, c)
	}
	for _, shards := range []int{1, 2} {
		for _, room := range []int{1, 2} {
			try(newBoth(shards, room, gone), 3)
		}
	}
	try(newBoth(2, 1, gone), 4)
	for _, way := range []string{"denied", "no room", "taken back", "made room", "granted several", "refused", "committed"} {
		if gone[way] < 50 {
			t.Fatal("too little happened to tell:", way, gone)
		}
	}
}

// TestShardsMakeNoDifference: as long as there is room, the same is told by Stores of however many shards.
func TestShardsMakeNoDifference(t *testing.T) {
	draw := scattered()
	for range 12 {
		all := []*Store{New(1, 10000), New(2, 60), New(3, 60), New(10, 60), New(63, 60), New(64, 60), New(0, 60)}
		w := &walk{append(namedKeys(40), strangeKeys()...), drawnPolicies(), 0, 300, draw}
		for range 400 {
			w.clock += draw(12)
			now, l, last, id, part, way := w.time(), w.limits(), draw(300), 1+draw(100), draw(6)-1, draw(6)
			tell := func(s *Store) (api.Verdict, api.Errno, int) {
				switch way {
				case 0:
					return s.Peek(now, l...), 0, s.Len()
				case 1:
					return s.Reserve(now, last, l...), 0, s.Len()
				case 2:
					return api.Verdict{}, s.Commit(now, id, part), s.Len()
				case 3:
					return api.Verdict{}, s.Cancel(now, id), s.Expire(now)
				default:
					return s.Take(now, l...), 0, s.Len()
				}
			}
			verdict, errno, count := tell(all[0])
			for _, s := range all[1:] {
				v, e, n := tell(s)
				if v != verdict || e != errno || n != count {
					t.Fatalf("of %d shards: %v, %d, %d, not %v, %d, %d", len(s.shards), v, e, n, verdict, errno, count)
				}
				for _, x := range l {
					checkLook(t, "of other shards", s, x, now, all[0].Look(x.Key, x.Policy, now))
				}
				checkHeld(t, "of other shards", s, all[0].Held()...)
			}
		}
	}
}

// memory is what a key's policy remembers, nanosecond by nanosecond, by nobody's states: what is there of a bucket, what is owed, and each unit that was taken.
type memory struct {
	policy      api.Policy
	level, held int
	units       []int
}

func newMemory(p api.Policy) *memory {
	m := &memory{policy: p}
	if p.Kind == api.Bucket {
		m.level = p.Burst * p.Period
	}
	return m
}

// pass lets one nanosecond pass, to now.
func (m *memory) pass(now int) {
	p := m.policy
	switch p.Kind {
	case api.Bucket:
		m.level = min(m.level+p.Limit, (p.Burst-m.held)*p.Period)
	case api.Gcra:
		m.level = max(m.level-p.Limit, m.held*p.Period)
	case api.Log:
		for len(m.units) > 0 && now-m.units[0] >= p.Period {
			m.units = m.units[1:]
		}
	default:
		if now%p.Period == 0 {
			m.units = nil
		}
	}
}

// room is for how many units there is room.
func (m *memory) room() int {
	p := m.policy
	switch p.Kind {
	case api.Bucket:
		return m.level / p.Period
	case api.Gcra:
		return (p.Burst*p.Period - m.level) / p.Period
	default:
		return p.Limit - m.held - len(m.units)
	}
}

func (m *memory) take(now, cost int) {
	switch m.policy.Kind {
	case api.Bucket:
		m.level -= cost * m.policy.Period
	case api.Gcra:
		m.level += cost * m.policy.Period
	default:
		m.units = append(m.units, slices.Repeat([]int{now}, cost)...)
	}
}

func (m *memory) hold(now, cost int) {
	if m.policy.Kind <= api.Gcra {
		m.take(now, cost)
	}
	m.held += cost
}

func (m *memory) release(now, cost int) {
	if m.policy.Kind <= api.Gcra {
		m.take(now, -cost)
	}
	m.held -= cost
}

func (m *memory) commit(now, cost int) {
	m.held -= cost
	if m.policy.Kind > api.Gcra {
		m.take(now, cost)
	}
}

// world is a Store, with a memory of each of its keys, and what is held of these.
type world struct {
	store    *Store
	memories map[string]*memory
	dues     []api.Due
	now      int
}

// to lets time pass; each due is released at its time.
func (w *world) to(now int) {
	for w.now < now {
		w.now++
		for _, m := range w.memories {
			m.pass(w.now)
		}
		w.dues = slices.DeleteFunc(w.dues, func(x api.Due) bool {
			for _, y := range x.Limits {
				if x.Till == w.now {
					w.memories[y.Key].release(w.now, y.Cost)
				}
			}
			return x.Till == w.now
		})
	}
}

// fits tells whether each of l has room, by its memory.
func (w *world) fits(l []api.Limit) bool {
	return !slices.ContainsFunc(l, func(x api.Limit) bool { return x.Cost > w.memories[x.Key].room() })
}

// TestNotAllIsDenied is the third promise, and with it the fifth: what is denied would be too much of one key at least, as far as its policy remembers, and what is granted of none; and it is charged of all, or of none.
func TestNotAllIsDenied(t *testing.T) {
	draw := scattered()
	counts := map[int]int{}
	denied := [5]int{}
	for range 60 {
		w := &world{store: New(1+draw(4), 100), memories: map[string]*memory{}}
		all := numbered(8, 0, small()...)
		for i := range all {
			p := &all[i].Policy
			p.Limit, p.Period = 3+draw(10), 5+draw(100)
			if p.Kind <= api.Gcra {
				p.Burst = 3 + draw(10)
			} else if p.Kind == api.Log {
				p.Cap = api.MaxLog
			}
			w.memories[all[i].Key] = newMemory(*p)
		}
		for range 300 {
			w.to(w.now + draw(8))
			first := draw(len(all))
			l := slices.Clone(slices.Concat(all, all)[first : first+draw(4)])
			for i := range l {
				l[i].Cost = 1 + draw(4)
			}
			fits := w.fits(l)
			switch draw(6) {
			case 0:
				w.store.Expire(w.now)
				w.settle(t, draw)
			case 1:
				if v := w.store.Peek(w.now, l...); (v.Kind == api.Granted) != fits {
					t.Fatalf("%v at %d: %v, but it fits: %t", l, w.now, v, fits)
				}
			case 2:
				last := 1 + draw(60)
				if v := w.store.Reserve(w.now, last, l...); (v.Kind == api.Granted) != fits {
					t.Fatalf("%v at %d: %v, but it fits: %t", l, w.now, v, fits)
				} else if fits {
					w.dues = append(w.dues, api.Due{ID: v.ID, Till: w.now + last, Limits: l})
					for _, x := range l {
						w.memories[x.Key].hold(w.now, x.Cost)
					}
				}
			default:
				v := w.store.Take(w.now, l...)
				if (v.Kind == api.Granted) != fits || v.Kind == api.NoRoom {
					t.Fatalf("%v at %d: %v, but it fits: %t", l, w.now, v, fits)
				}
				counts[v.Kind]++
				for _, x := range l {
					if fits {
						w.memories[x.Key].take(w.now, x.Cost)
					} else if x.Cost > w.memories[x.Key].room() {
						denied[x.Policy.Kind]++
					}
				}
			}
			for _, x := range all {
				if got, want := limiter.Room(x.Policy, w.store.Look(x.Key, x.Policy, w.now), w.now), w.memories[x.Key].room(); got != want {
					t.Fatalf("%v at %d: room for %d, not for %d", x, w.now, got, want)
				}
			}
		}
	}
	if counts[api.Granted] < 2000 || counts[api.Denied] < 1500 || slices.Min(denied[1:]) < 300 {
		t.Fatal("too little happened to tell:", counts, denied)
	}
}

// settle ends one of the holds, if there is one, by a commit or a cancel.
func (w *world) settle(t *testing.T, draw func(count int) int) {
	t.Helper()
	if len(w.dues) == 0 {
		return
	}
	i := draw(len(w.dues))
	due := w.dues[i]
	w.dues = slices.Delete(w.dues, i, i+1)
	most := draw(6) - 1
	if draw(3) == 0 {
		checkErrno(t, "cancel", w.store.Cancel(w.now, due.ID), api.OK)
		most = 0
	} else {
		checkErrno(t, "commit", w.store.Commit(w.now, due.ID, most), api.OK)
	}
	for _, x := range due.Limits {
		part := x.Cost
		if most >= 0 {
			part = min(most, part)
		}
		w.memories[x.Key].commit(w.now, part)
		w.memories[x.Key].release(w.now, x.Cost-part)
	}
}

// TestAllOrNothing is the fifth promise: what is not granted changes nothing at all, but by Expire; of what is granted each key is charged its Cost once, and no other one is touched, unless it makes room.
func TestAllOrNothing(t *testing.T) {
	draw := scattered()
	counts := map[int]int{}
	for range 250 {
		w := &walk{namedKeys(9), drawnPolicies()[:12], 0, 200, draw}
		s := New(1+draw(4), draw(6))
		for range 60 {
			w.clock += draw(12)
			now, l := w.time(), w.limits()
			kind := api.Take + draw(2)
			before := s.Copy()
			before.Expire(now)
			var v api.Verdict
			if kind == api.Take {
				v = s.Take(now, l...)
			} else {
				v = s.Reserve(now, draw(200), l...)
			}
			counts[v.Kind]++
			if v.Kind != api.Granted {
				checkSame(t, "nothing", s, before)
				continue
			}
			asked := map[string]api.Limit{}
			for _, x := range l {
				asked[x.Key] = x
			}
			there := map[string]bool{}
			for i, c := range s.shards {
				for _, x := range c.All() {
					there[x.Key] = true
					want := before.Look(x.Key, x.Policy, now)
					if y, is := asked[x.Key]; is {
						want = do(t, y.Policy, before.Look(y.Key, y.Policy, now), kind, now, y.Cost)
					} else if !slices.ContainsFunc(before.shards[i].All(), func(y api.Cell) bool { return sameCell(x, y) }) {
						t.Fatal("nobody asked for", x)
					}
					if !sameState(x.State, want) {
						t.Fatalf("%q: %v, not %v", x.Key, x.State, want)
					}
				}
			}
			for _, c := range before.shards {
				for _, x := range c.All() {
					_, is := asked[x.Key]
					if !is && !there[x.Key] && !limiter.Fresh(x.Policy, x.State, now) && (!x.Policy.Open || x.State.Held > 0) {
						t.Fatal("nobody may forget", x)
					}
				}
			}
		}
	}
	if counts[api.Granted] < 2000 || counts[api.Denied] < 1000 || counts[api.NoRoom] < 1000 {
		t.Fatal("too little happened to tell:", counts)
	}
}

// FuzzStore looks for calls that the walks miss: go test -fuzz=FuzzStore ./store.
func FuzzStore(f *testing.F) {
	f.Add(1, 1, []byte("\x00\x03\x05\x01\x00\x03\x05\x01"))
	f.Add(3, 2, []byte("\x02\x07\x00\x09\x03\x01\x05\x02\x04\x01\x05\x02"))
	f.Add(64, 0, []byte("\x02\x00\x00\x09\x05\x00\x20\x00\x01\x0f\x20\x03"))
	f.Add(-1, 10001, []byte("\x12\xff\x00\x09\x22\xff\x01\x09\x05\x00\x7f\x00\x00\xff\x80\x04"))
	f.Fuzz(func(t *testing.T, shards, room int, calls []byte) {
		b := newBoth(shards, room, map[string]int{})
		policies := drawnPolicies()
		clock := 0
		for l := range slices.Chunk(calls, 4) {
			if len(l) < 4 {
				break
			}
			more, n := int(l[0]>>3), int(int8(l[3]))
			clock += int(int8(l[2]))
			// Each bit of the second byte is a key that is asked for.
			var limits []api.Limit
			for i := range 8 {
				if l[1]>>i&1 == 1 {
					limits = append(limits, limit("k"+strconv.Itoa(i), policies[(i+more/4)%len(policies)], n))
				}
			}
			switch l[0] & 7 {
			case 0:
				b.take(t, clock, limits...)
			case 1:
				b.peek(t, clock, limits...)
			case 2:
				b.reserve(t, clock, more*8, limits...)
			case 3:
				b.commit(t, clock, n, more-1)
			case 4:
				b.cancel(t, clock, n)
			case 5:
				b.expire(t, clock)
			case 6:
				b.take(t, clock, append(limits, limit("k"+strconv.Itoa(more&7), policies[more&15%len(policies)], 1))...)
			default:
				origin := b
				b = b.copied()
				origin.expire(t, clock)
				origin.take(t, clock, limits...)
			}
			b.checkAll(t)
		}
	})
}

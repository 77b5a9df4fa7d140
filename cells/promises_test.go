package cells

import (
	"slices"
	"strconv"
	"strings"
	"testing"

	"tapster/api"
	"tapster/limiter"
)

// plain is a list that does what Cells do: its CELLS, from the OLDEST on. It tells how often which way was gone.
type plain struct {
	room int
	list []api.Cell
	gone map[string]int
}

// mine is x with a Log that nobody else has.
func mine(x api.Cell) api.Cell {
	x.State.Log = slices.Clone(x.State.Log)
	return x
}

func (l *plain) index(key string) int {
	return slices.IndexFunc(l.list, func(x api.Cell) bool { return x.Key == key })
}

func (l *plain) remove(i int) {
	l.list = slices.Delete(l.list, i, i+1)
}

func (l *plain) look(key string, p api.Policy, now int) api.State {
	if i := l.index(key); i >= 0 && l.list[i].Policy == p {
		return l.list[i].State
	}
	return limiter.New(p, now)
}

func (l *plain) set(x api.Cell, now int) api.Errno {
	if !limiter.Right(x.Policy, x.State) {
		l.gone["wrong"]++
		return api.ErrArg
	}
	here := l.index(x.Key)
	if limiter.Fresh(x.Policy, x.State, now) {
		l.gone["fresh"]++
		if here >= 0 {
			l.gone["forgotten"]++
			l.remove(here)
		}
		return api.OK
	}
	if here >= 0 {
		l.gone["again"]++
		l.remove(here)
	} else if len(l.list) >= l.room && !l.makeRoom(now) {
		l.gone["full"]++
		return api.ErrFull
	}
	l.list = append(l.list, mine(x))
	return api.OK
}

func (l *plain) makeRoom(now int) bool {
	for i, x := range l.list {
		if limiter.Fresh(x.Policy, x.State, now) {
			l.gone["evicted fresh"]++
			l.remove(i)
			return true
		}
	}
	for i, x := range l.list {
		if x.Policy.Open && x.State.Held == 0 {
			l.gone["evicted open"]++
			l.remove(i)
			return true
		}
	}
	return false
}

func (l *plain) sweep(now int) int {
	before := len(l.list)
	l.list = slices.DeleteFunc(l.list, func(x api.Cell) bool { return limiter.Fresh(x.Policy, x.State, now) })
	l.gone["swept"] += before - len(l.list)
	return before - len(l.list)
}

// both are Cells and the list that does the same.
type both struct {
	cells *Cells
	plain *plain
}

func newBoth(room int, gone map[string]int) both {
	return both{New(room), &plain{room: min(max(room, 0), 10000), gone: gone}}
}

func (b both) set(t *testing.T, x api.Cell, now int) {
	t.Helper()
	if got, want := b.cells.Set(mine(x), now), b.plain.set(x, now); got != want {
		t.Fatalf("Set(%v, %d): %d, not %d", x, now, got, want)
	}
}

func (b both) sweep(t *testing.T, now int) {
	t.Helper()
	if got, want := b.cells.Sweep(now), b.plain.sweep(now); got != want {
		t.Fatalf("Sweep(%d): %d, not %d", now, got, want)
	}
}

func (b both) look(t *testing.T, key string, p api.Policy, now int) {
	t.Helper()
	checkLook(t, "both", b.cells, key, p, now, b.plain.look(key, p, now))
	if got, want := b.cells.Len(), len(b.plain.list); got != want {
		t.Fatalf("Len: %d, not %d", got, want)
	}
}

// scattered draws numbers from 0 to below count, the same in every run.
func scattered() func(count int) int {
	x := uint64(88172645463325252)
	return func(count int) int {
		x ^= x << 13
		x ^= x >> 7
		x ^= x << 17
		return int((x >> 11) % uint64(count))
	}
}

// drawnPolicies are of all four Kinds, Open and not, some of which differ in little.
func drawnPolicies() []api.Policy {
	l := append(small(),
		api.Policy{Kind: api.Bucket, Limit: 1, Period: 1, Burst: 3},
		api.Policy{Kind: api.Gcra, Limit: 3, Period: 100, Burst: 2},
		api.Policy{Kind: api.Log, Limit: 10, Period: 101, Cap: 3},
		api.Policy{Kind: api.Count, Limit: 1, Period: 20})
	for _, p := range l {
		l = append(l, open(p))
	}
	return l
}

// wrong is x with one number of it another one, which mostly may not be.
func wrong(x api.Cell, draw func(count int) int) api.Cell {
	n := []int{least, -1, 0, 1, 5, api.MaxTime + 1, most}[draw(7)]
	switch draw(9) {
	case 0:
		x.State.At = n
	case 1:
		x.State.Level = n
	case 2:
		x.State.Held = n
	case 3:
		x.State.Log = append(slices.Clone(x.State.Log), api.Entry{T: n, Cost: draw(3)})
	case 4:
		x.Policy.Kind = n
	case 5:
		x.Policy.Limit = n
	case 6:
		x.Policy.Period = n
	case 7:
		x.Policy.Burst = n
	case 8:
		x.Policy.Cap = n
	}
	return x
}

// A walk is what happens to Cells, one call behind the other, by a clock that leaps.
type walk struct {
	keys     []string
	policies []api.Policy
	clock    int
	draw     func(count int) int
}

// next is the CELL that is Set next, and when: mostly what an act made of what look tells.
func (w *walk) next(look func(key string, p api.Policy, now int) api.State) (api.Cell, int) {
	w.clock += w.draw(12)
	now := w.clock
	switch w.draw(12) {
	case 0:
		now -= w.draw(300)
	case 1:
		now = []int{least, -1, 0, api.MaxTime, most}[w.draw(5)]
	}
	x := api.Cell{Key: w.keys[w.draw(len(w.keys))], Policy: w.policies[w.draw(len(w.policies))]}
	act := api.Act{Kind: 1 + w.draw(4), Now: min(now, w.clock), Cost: 1 + w.draw(4)}
	x.State, _ = limiter.Do(x.Policy, look(x.Key, x.Policy, min(now, w.clock)), act)
	if w.draw(8) == 0 {
		x = wrong(x, w.draw)
	}
	return x, now
}

// strangeKeys are such as maps may take for one another, or stumble over.
func strangeKeys() []string {
	return []string{"", " ", "\x00", "\x00\x00", "a", "A", "a\x00", "é", "e\u0301", "\xff", "\xff\xfe", "\ufffd", "a:", `a\:`, "0", "-1", strings.Repeat("k", 3000), strings.Repeat("k", 2999) + "l"}
}

func namedKeys(count int) []string {
	l := make([]string, count)
	for i := range l {
		l[i] = "k" + strconv.Itoa(i)
	}
	return l
}

// enough tells whether each way was gone that often at least.
func enough(t *testing.T, gone map[string]int, least int) {
	t.Helper()
	for _, way := range []string{"wrong", "fresh", "forgotten", "again", "full", "evicted fresh", "evicted open", "swept"} {
		if gone[way] < least {
			t.Fatal("too little happened to tell:", gone)
		}
	}
}

// TestAnyInput walks Cells of many rooms and the plain list through the same calls: all of them end without a panic and tell the same.
func TestAnyInput(t *testing.T) {
	gone := map[string]int{}
	draw := scattered()
	for _, keys := range [][]string{namedKeys(2), namedKeys(5), namedKeys(30), strangeKeys()} {
		for _, policies := range [][]api.Policy{drawnPolicies(), drawnPolicies()[:8], drawnPolicies()[8:], drawnPolicies()[:1]} {
			for _, room := range []int{least, -1, 0, 1, 2, 3, 4, 12, 10000, most} {
				b := newBoth(room, gone)
				w := &walk{keys, policies, draw(2000), draw}
				for step := range 300 {
					x, now := w.next(b.plain.look)
					b.look(t, x.Key, x.Policy, now)
					if draw(20) == 0 {
						b.sweep(t, now)
					} else {
						b.set(t, x, now)
					}
					b.look(t, x.Key, x.Policy, now)
					b.look(t, keys[draw(len(keys))], policies[draw(len(policies))], now)
					if step%10 == 0 {
						checkAll(t, "walk", b.cells, b.plain.list...)
					}
					if draw(40) == 0 {
						b.cells = b.cells.Copy()
					}
				}
				checkAll(t, "walk", b.cells, b.plain.list...)
			}
		}
	}
	enough(t, gone, 150)
}

// TestGreatCells walks a row of some hundreds of CELLS, which grows, stays full, and shrinks again.
func TestGreatCells(t *testing.T) {
	gone := map[string]int{}
	draw := scattered()
	for _, room := range []int{300, 700} {
		b := newBoth(room, gone)
		// One of them alone is Open, so that there is none to go at times.
		w := &walk{namedKeys(1000), drawnPolicies()[:9], 0, draw}
		for i := range w.policies {
			// Slow enough that hundreds are limited at one time.
			w.policies[i].Period *= 200
		}
		for step := range 6000 {
			x, now := w.next(b.plain.look)
			b.set(t, x, now)
			b.look(t, x.Key, x.Policy, now)
			if step%1000 == 999 {
				checkAll(t, "walk", b.cells, b.plain.list...)
				w.clock += 4000
				b.sweep(t, w.clock)
				checkAll(t, "walk", b.cells, b.plain.list...)
			}
		}
	}
	enough(t, gone, 20)
}

// mayNotGo tells whether a CELL must stay, whatever else there is: it is not as new, and its policy is not Open, or some is held.
func mayNotGo(x api.Cell, now int) bool {
	return !limiter.Fresh(x.Policy, x.State, now) && (!x.Policy.Open || x.State.Held > 0)
}

// TestWhatIsKept is the sixth promise, as far as Cells bear it: what must stay is there behind each call, as it was, till its own key is Set.
func TestWhatIsKept(t *testing.T) {
	draw := scattered()
	stayed, refused := 0, 0
	for _, room := range []int{1, 2, 3, 8, 20} {
		for range 20 {
			c := New(room)
			w := &walk{namedKeys(2*room + 1), drawnPolicies(), 0, draw}
			stays := map[string]api.Cell{}
			for range 200 {
				x, now := w.next(c.Look)
				for key, y := range stays {
					if !mayNotGo(y, now) {
						delete(stays, key)
					}
				}
				if draw(10) == 0 {
					c.Sweep(now)
				} else if e := c.Set(x, now); e == api.OK {
					delete(stays, x.Key)
					if mayNotGo(x, now) {
						stays[x.Key] = mine(x)
					}
				} else {
					refused++
				}
				for key, y := range stays {
					stayed++
					checkLook(t, "kept", c, key, y.Policy, now, y.State)
				}
			}
		}
	}
	if stayed < 10000 || refused < 1000 {
		t.Fatal("too little was kept, or refused, to tell:", stayed, refused)
	}
}

// TestLimitsLast: with Cells between, one grants no more than the limiter alone, however full they are, as long as no Set is refused.
func TestLimitsLast(t *testing.T) {
	draw := scattered()
	granted, denied := 0, 0
	for _, p := range small() {
		for _, room := range []int{1, 2, 5} {
			c := New(room)
			alone := map[string]api.State{}
			clock := 0
			for range 3000 {
				clock += draw(15)
				key := "k" + strconv.Itoa(draw(2*room))
				if _, there := alone[key]; !there {
					alone[key] = limiter.New(p, clock)
				}
				act := api.Act{Kind: api.Take, Now: clock, Cost: 1 + draw(6)}
				s, ok := limiter.Do(p, c.Look(key, p, clock), act)
				if ok && c.Set(api.Cell{Key: key, Policy: p, State: s}, clock) != api.OK {
					continue
				}
				then, want := limiter.Do(p, alone[key], act)
				alone[key] = then
				if ok != want {
					t.Fatalf("%v, room %d: %v of %q: %t, not %t", p, room, act, key, ok, want)
				}
				if ok {
					granted++
				} else {
					denied++
				}
			}
		}
	}
	if granted < 3000 || denied < 1000 {
		t.Fatal("too little was granted, or denied, to tell:", granted, denied)
	}
}

// FuzzCells looks for calls that the walks miss: go test -fuzz=FuzzCells ./cells.
func FuzzCells(f *testing.F) {
	f.Add(1, []byte("\x00a\x05\x00\x00b\x05\x00\x00b\x05\x7f"))
	f.Add(0, []byte("\x00a\x05\x00\x01\x00\x05\x00"))
	f.Add(2, []byte("\x08a\x05\x00\x18b\x05\x00\x00c\x05\x01\x00d\x05\x01\x04c\xff\x01"))
	f.Add(-1, []byte("\x02a\x05\x00"))
	f.Add(10001, []byte("\x03a\x05\x00\x0ba\x05\x00\x13a\x15\x00\x04a\x05\xff"))
	f.Fuzz(func(t *testing.T, room int, calls []byte) {
		b := newBoth(room, map[string]int{})
		policies := drawnPolicies()
		clock := 0
		for l := range slices.Chunk(calls, 4) {
			if len(l) < 4 {
				break
			}
			kind, key, number := int(l[0]&7), string(l[1:2]), int(l[2])
			clock += int(int8(l[3]))
			p := policies[l[0]>>3&15]
			s, _ := limiter.Do(p, b.plain.look(key, p, clock), api.Act{Kind: kind, Now: clock, Cost: number & 15})
			switch kind {
			case 5:
				s.Held += number - 128
			case 6:
				s.Level += number - 128
			case 7:
				s = limiter.New(p, clock+number)
			case 0:
				b.sweep(t, clock)
			}
			b.set(t, api.Cell{Key: key, Policy: p, State: s}, clock)
			b.look(t, key, p, clock)
			checkAll(t, "calls", b.cells, b.plain.list...)
		}
	})
}

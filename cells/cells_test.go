package cells

import (
	"reflect"
	"slices"
	"strconv"
	"strings"
	"testing"

	"tapster/api"
	"tapster/limiter"
)

const (
	most  = 1<<63 - 1
	least = -1 << 63
)

// small are policies of the four Kinds, in their order, by which 10 are granted in 100.
func small() []api.Policy {
	return []api.Policy{
		{Kind: api.Bucket, Limit: 10, Period: 100, Burst: 10},
		{Kind: api.Gcra, Limit: 10, Period: 100, Burst: 10},
		{Kind: api.Log, Limit: 10, Period: 100, Cap: 3},
		{Kind: api.Count, Limit: 10, Period: 100},
	}
}

func open(p api.Policy) api.Policy {
	p.Open = true
	return p
}

// acted is a CELL, new at a time, to which one act was done then.
func acted(key string, p api.Policy, kind, now int) api.Cell {
	s, ok := limiter.Do(p, limiter.New(p, now), api.Act{Kind: kind, Now: now, Cost: 5})
	if !ok {
		panic("refused: " + key)
	}
	return api.Cell{Key: key, Policy: p, State: s}
}

// taken is limited by p for less than 100.
func taken(key string, p api.Policy, now int) api.Cell {
	return acted(key, p, api.Take, now)
}

// held is limited by p for ever.
func held(key string, p api.Policy, now int) api.Cell {
	return acted(key, p, api.Hold, now)
}

func newAt(key string, p api.Policy, now int) api.Cell {
	return api.Cell{Key: key, Policy: p, State: limiter.New(p, now)}
}

// filled are Cells for room, with those of l, Set in their order.
func filled(t *testing.T, room int, l ...api.Cell) *Cells {
	t.Helper()
	c := New(room)
	for i, x := range l {
		checkSet(t, "filled, "+strconv.Itoa(i), c, x, 0, api.OK)
	}
	return c
}

// numbered are count CELLS by p, each taken from at 0.
func numbered(count int, p api.Policy) []api.Cell {
	l := make([]api.Cell, count)
	for i := range l {
		l[i] = taken("k"+strconv.Itoa(i), p, 0)
	}
	return l
}

func keysOf(l []api.Cell) []string {
	keys := make([]string, len(l))
	for i, x := range l {
		keys[i] = x.Key
	}
	return keys
}

func same(a, b api.State) bool {
	return a.At == b.At && a.Level == b.Level && a.Held == b.Held && slices.Equal(a.Log, b.Log)
}

func sameCell(a, b api.Cell) bool {
	return a.Key == b.Key && a.Policy == b.Policy && same(a.State, b.State)
}

// without is l without the CELL of a key.
func without(l []api.Cell, key string) []api.Cell {
	var rest []api.Cell
	for _, x := range l {
		if x.Key != key {
			rest = append(rest, x)
		}
	}
	return rest
}

func checkSet(t *testing.T, when string, c *Cells, x api.Cell, now int, want api.Errno) {
	t.Helper()
	if got := c.Set(x, now); got != want {
		t.Fatalf("%s: Set(%v, %d): %d, not %d", when, x, now, got, want)
	}
}

// checkAll holds what there is against a list, from the OLDEST on.
func checkAll(t *testing.T, when string, c *Cells, want ...api.Cell) {
	t.Helper()
	if got := c.All(); !slices.EqualFunc(got, want, sameCell) {
		t.Fatalf("%s: All %v, not %v", when, got, want)
	}
	if got := c.Len(); got != len(want) {
		t.Fatalf("%s: Len %d, not %d", when, got, len(want))
	}
	checkWhole(t, when, c)
}

// checkWhole looks into c: no CELL may be kept that is not found, nor one that is found be another key's.
func checkWhole(t *testing.T, when string, c *Cells) {
	t.Helper()
	if !c.made() {
		return
	}
	if len(c.cells) != c.numbers.Len() || len(c.cells) > max(c.room, 0) || c.room > api.MaxCells {
		t.Fatalf("%s: %d cells, %d numbers, room for %d", when, len(c.cells), c.numbers.Len(), c.room)
	}
	for _, key := range c.numbers.Keys() {
		number, _ := c.numbers.Peek(key)
		if x, there := c.cells[number]; !there || x.Key != key || !limiter.Right(x.Policy, x.State) {
			t.Fatalf("%s: at %q, number %d: %v, %t", when, key, number, x, there)
		}
	}
}

func checkLook(t *testing.T, when string, c *Cells, key string, p api.Policy, now int, want api.State) {
	t.Helper()
	if got := c.Look(key, p, now); !same(got, want) {
		t.Fatalf("%s: Look(%q, %v, %d): %v, not %v", when, key, p, now, got, want)
	}
}

// TestExample is the chapter's, by each Kind.
func TestExample(t *testing.T) {
	for _, p := range small() {
		a, b := taken("a", p, 10), taken("b", p, 10)
		c := filled(t, 1, a)
		checkSet(t, "at the same time", c, b, 10, api.ErrFull)
		checkAll(t, "at the same time", c, a)
		fresh := 10 + limiter.Until(p, a.State, 10)
		checkSet(t, "ahead of it", c, taken("b", p, fresh-1), fresh-1, api.ErrFull)
		checkAll(t, "ahead of it", c, a)
		b = taken("b", p, fresh)
		checkSet(t, "when a is Fresh", c, b, fresh, api.OK)
		checkAll(t, "when a is Fresh", c, b)
		checkLook(t, "a is gone", c, "a", p, fresh, limiter.New(p, fresh))
	}
}

func TestRoom(t *testing.T) {
	p := small()[0]
	for _, x := range []struct{ room, want int }{
		{least, 0}, {least + 1, 0}, {-10000, 0}, {-1, 0}, {0, 0}, {1, 1}, {2, 2}, {3, 3}, {100, 100},
		{9999, 9999}, {10000, 10000}, {10001, 10000}, {20000, 10000}, {1 << 32, 10000}, {1<<32 + 1, 10000}, {most, 10000},
	} {
		when := "room " + strconv.Itoa(x.room)
		c := New(x.room)
		checkAll(t, when, c)
		l := numbered(x.want, p)
		for _, y := range l {
			checkSet(t, when, c, y, 0, api.OK)
		}
		for _, full := range []*Cells{c, c.Copy()} {
			checkSet(t, when+", full", full, taken("more", p, 0), 0, api.ErrFull)
			checkSet(t, when+", full", full, taken("more", open(p), 0), 0, api.ErrFull)
			checkSet(t, when+", full", full, held("more", p, 0), 0, api.ErrFull)
			checkSet(t, when+", full", full, newAt("more", p, 0), 0, api.OK)
			checkAll(t, when+", full", full, l...)
		}
		if got := c.Sweep(200); got != x.want {
			t.Fatalf("%s: Sweep %d", when, got)
		}
		checkAll(t, when+", swept", c)
	}
}

// TestSetAndLook keeps states as they are, by each Kind: none of them is advanced.
func TestSetAndLook(t *testing.T) {
	for _, p := range small() {
		for _, p := range []api.Policy{p, open(p)} {
			c := New(3)
			a, b := taken("a", p, 5), held("b", p, 7)
			for _, now := range []int{9, least, 0, most} {
				checkLook(t, "not there", c, "a", p, now, limiter.New(p, now))
			}
			checkSet(t, "set", c, a, 5, api.OK)
			checkSet(t, "set", c, b, 8, api.OK)
			checkAll(t, "set", c, a, b)
			for _, now := range []int{least, -1, 0, 5, 6, 50, 300, api.MaxTime, most} {
				checkLook(t, "there", c, "a", p, now, a.State)
				checkLook(t, "there", c, "b", p, now, b.State)
				checkLook(t, "not there", c, "c", p, now, limiter.New(p, now))
				checkLook(t, "not there", c, "", p, now, limiter.New(p, now))
				checkLook(t, "not there", c, "A", p, now, limiter.New(p, now))
				checkLook(t, "not there", c, "a\x00", p, now, limiter.New(p, now))
			}
			checkAll(t, "looked", c, a, b)
			then, ok := limiter.Do(p, c.Look("a", p, 20), api.Act{Kind: api.Take, Now: 20, Cost: 2})
			if !ok {
				t.Fatal("refused", p)
			}
			a.State = then
			checkSet(t, "set again", c, a, 20, api.OK)
			checkAll(t, "set again", c, b, a)
			checkLook(t, "set again", c, "a", p, 21, then)
		}
	}
}

// TestLookOtherPolicy asks for one that differs in one field alone: what is kept is not its.
func TestLookOtherPolicy(t *testing.T) {
	for i, p := range small() {
		x := taken("a", p, 5)
		c := filled(t, 2, x)
		others := []api.Policy{small()[(i+1)%4], small()[(i+2)%4], small()[(i+3)%4], open(p), {}}
		change := func(by func(p *api.Policy)) {
			q := p
			by(&q)
			others = append(others, q)
		}
		for kind := range 6 {
			if kind != p.Kind {
				change(func(q *api.Policy) { q.Kind = kind })
			}
		}
		for _, by := range []int{1, -1, 1 << 32} {
			change(func(q *api.Policy) { q.Limit += by })
			change(func(q *api.Policy) { q.Period += by })
			change(func(q *api.Policy) { q.Burst += by })
			change(func(q *api.Policy) { q.Cap += by })
		}
		for _, q := range others {
			for _, now := range []int{-1, 0, 5, 77, most} {
				checkLook(t, "another one", c, "a", q, now, limiter.New(q, now))
			}
			checkLook(t, "its own", c, "a", p, 77, x.State)
			// It is the key that is looked for: another policy's CELL of it takes the place.
			if y := newAt("a", q, 6); limiter.Check(q) == api.OK {
				d := c.Copy()
				checkSet(t, "another one", d, taken("b", p, 6), 6, api.OK)
				y.State, _ = limiter.Do(q, y.State, api.Act{Kind: api.Take, Now: 6, Cost: 4})
				checkSet(t, "another one", d, y, 6, api.OK)
				checkAll(t, "another one", d, taken("b", p, 6), y)
				checkLook(t, "another one", d, "a", p, 9, limiter.New(p, 9))
				checkLook(t, "another one", d, "a", q, 9, y.State)
			}
		}
		checkAll(t, "looked", c, x)
	}
}

// TestNoBytes is of the key that has none.
func TestNoBytes(t *testing.T) {
	for _, p := range small() {
		x, y := taken("", p, 0), taken("a", p, 0)
		c := filled(t, 2, x, y)
		checkAll(t, "no bytes", c, x, y)
		checkLook(t, "no bytes", c, "", p, 9, x.State)
		checkSet(t, "no bytes", c, taken("b", p, 1), 1, api.ErrFull)
		checkSet(t, "no bytes, again", c, x, 1, api.OK)
		checkAll(t, "no bytes, again", c, y, x)
		checkSet(t, "no bytes, Fresh", c, newAt("", p, 2), 2, api.OK)
		checkAll(t, "no bytes, Fresh", c, y)
		checkLook(t, "no bytes, gone", c, "", p, 9, limiter.New(p, 9))
		only := filled(t, 1, taken("", open(p), 0))
		checkSet(t, "the only one, Open", only, y, 1, api.OK)
		checkAll(t, "the only one, Open", only, y)
		checkSet(t, "the only one, Fresh", only, taken("", p, 200), 200, api.OK)
		checkAll(t, "the only one, Fresh", only, taken("", p, 200))
		if n := only.Sweep(400); n != 1 || only.Len() != 0 {
			t.Fatal("swept", n, only.Len())
		}
	}
}

// TestSetFresh keeps nothing, and forgets the key, with room and without.
func TestSetFresh(t *testing.T) {
	for i, p := range small() {
		a, b, d := taken("a", p, 10), held("b", p, 10), taken("d", open(p), 10)
		other := small()[(i+1)%4]
		for _, room := range []int{3, 4} {
			for _, x := range []struct {
				x   api.Cell
				now int
			}{
				{newAt("", p, 10), 10},
				{newAt("", p, 10), 11},
				{newAt("", p, 10), 3},
				{newAt("", p, 10), least},
				{newAt("", open(p), 0), most},
				{newAt("", other, 0), 10},
				{taken("", p, 10), 200},
				{taken("", other, 10), 200},
				{taken("", open(p), 10), most},
			} {
				for _, key := range []string{"a", "b", "d", "c", ""} {
					c := filled(t, room, a, b, d)
					x.x.Key = key
					for range 2 {
						checkSet(t, "Fresh", c, x.x, x.now, api.OK)
						checkAll(t, "Fresh", c, without([]api.Cell{a, b, d}, key)...)
					}
					checkLook(t, "Fresh", c, key, x.x.Policy, 77, limiter.New(x.x.Policy, 77))
				}
			}
		}
		none := New(0)
		checkSet(t, "no room", none, newAt("a", p, 10), 10, api.OK)
		checkAll(t, "no room", none)
	}
}

// TestSetAgain sets a key that is there when all is full: nobody has to go, though some might.
func TestSetAgain(t *testing.T) {
	for _, p := range small() {
		for _, q := range []api.Policy{p, open(p)} {
			l := []api.Cell{taken("a", q, 0), taken("b", q, 0), held("c", q, 0), taken("d", q, 0)}
			for _, key := range []string{"a", "b", "c", "d"} {
				for _, now := range []int{0, 500} {
					for _, x := range []api.Cell{taken(key, p, now), held(key, p, now), taken(key, open(p), now)} {
						c := filled(t, 4, l...)
						for range 2 {
							checkSet(t, "again", c, x, now, api.OK)
							checkAll(t, "again", c, append(without(l, key), x)...)
						}
					}
				}
			}
		}
	}
}

// told is a CELL of which a letter tells what it is at 1000: limited (l), Fresh (f), Open (o), Open and Fresh (p), held (h), Open and held (i).
func told(letter byte, key string, p api.Policy) api.Cell {
	switch letter {
	case 'l':
		return taken(key, p, 1000)
	case 'f':
		return taken(key, p, 0)
	case 'o':
		return taken(key, open(p), 1000)
	case 'p':
		return taken(key, open(p), 0)
	case 'h':
		return held(key, p, 0)
	}
	return held(key, open(p), 0)
}

// words are all that have count of some letters.
func words(letters string, count int) []string {
	l := []string{""}
	for range count {
		var longer []string
		for _, word := range l {
			for _, letter := range letters {
				longer = append(longer, word+string(letter))
			}
		}
		l = longer
	}
	return l
}

// TestWhoGoes fills Cells with CELLS of all sorts, in each order, and sets one more: the OLDEST that is Fresh goes; else the OLDEST that is Open, with nothing Held; else there is no room.
func TestWhoGoes(t *testing.T) {
	for _, p := range small() {
		for count := range 5 {
			for _, word := range words("lfophi", count) {
				var l []api.Cell
				for i := range word {
					l = append(l, told(word[i], "k"+strconv.Itoa(i), p))
				}
				gone := strings.IndexAny(word, "fp")
				if gone < 0 {
					gone = strings.IndexByte(word, 'o')
				}
				for _, x := range []api.Cell{taken("x", p, 1000), held("x", open(p), 1000)} {
					c := filled(t, count, l...)
					if gone < 0 {
						checkSet(t, word, c, x, 1000, api.ErrFull)
						checkAll(t, word, c, l...)
						continue
					}
					checkSet(t, word, c, x, 1000, api.OK)
					checkAll(t, word, c, append(without(l, l[gone].Key), x)...)
					checkLook(t, word, c, l[gone].Key, l[gone].Policy, 1000, limiter.New(p, 1000))
				}
			}
		}
	}
}

// TestOrderOfSetting: OLDEST is what was Set first, whatever was looked up since then, and whatever its time is.
func TestOrderOfSetting(t *testing.T) {
	for _, p := range small() {
		q := open(p)
		a, b, d := taken("a", q, 30), taken("b", q, 20), taken("d", q, 10)
		c := filled(t, 3, a, b, d)
		c.Look("a", q, 40)
		c.All()
		checkSet(t, "the first one goes", c, taken("e", q, 40), 40, api.OK)
		checkAll(t, "the first one goes", c, b, d, taken("e", q, 40))
		checkSet(t, "again", c, b, 40, api.OK)
		checkSet(t, "the second one goes", c, a, 40, api.OK)
		checkAll(t, "the second one goes", c, taken("e", q, 40), b, a)
		checkSet(t, "a refused one is no newer", c, api.Cell{Key: "e", Policy: q, State: api.State{At: -1}}, 40, api.ErrArg)
		checkSet(t, "the third one goes", c, d, 40, api.OK)
		checkAll(t, "the third one goes", c, b, a, d)
	}
}

// wrongCells may not be: their Policy may not, or their State not by it.
func wrongCells(key string) []api.Cell {
	var l []api.Cell
	add := func(p api.Policy, states ...api.State) {
		for _, s := range states {
			l = append(l, api.Cell{Key: key, Policy: p, State: s})
		}
	}
	for _, p := range small() {
		for _, p := range []api.Policy{p, open(p)} {
			n := limiter.New(p, 9)
			for _, at := range []int{least, -1, api.MaxTime + 1, most} {
				add(p, api.State{At: at, Level: n.Level})
			}
			for _, level := range []int{least, -1, 1001, most} {
				add(p, api.State{At: 9, Level: level})
			}
			for _, h := range []int{least, -1, 11, most} {
				add(p, api.State{At: 9, Held: h})
			}
			for _, kind := range []int{least, -1, 0, 5, 6, 1<<32 + 1, most} {
				q := p
				q.Kind = kind
				add(q, n, api.State{}, taken(key, p, 9).State)
			}
			for _, limit := range []int{least, 0, api.MaxLimit + 1} {
				q := p
				q.Limit = limit
				add(q, n, api.State{}, taken(key, p, 9).State)
			}
		}
	}
	log := []api.Entry{{T: 9, Cost: 1}}
	add(small()[0], api.State{At: 9, Level: 500, Log: log}, api.State{At: 9, Level: 1000, Held: 1})
	add(small()[1], api.State{At: 9, Level: 500, Log: log}, api.State{At: 9, Level: 99, Held: 1})
	add(small()[2], api.State{At: 8, Log: log}, api.State{At: 9, Level: 1, Log: log}, api.State{At: 9, Held: 10, Log: log},
		api.State{At: 9, Log: []api.Entry{{T: 5, Cost: 1}, {T: 4, Cost: 1}}}, api.State{At: 9, Log: []api.Entry{{T: 5, Cost: 0}}},
		api.State{At: 9, Log: slices.Repeat(log, 4)}, api.State{At: 9, Log: []api.Entry{{T: 5, Cost: most}, {T: 5, Cost: most}}})
	add(small()[3], api.State{At: 9, Level: 5, Log: log}, api.State{At: 9, Level: 6, Held: 5})
	add(api.Policy{}, api.State{}, api.State{At: 9}, api.State{Log: log})
	add(open(api.Policy{}), api.State{})
	return l
}

// TestNotRight tells ErrArg, with room, without, of a key that is there, of one that is not, and in no room at all; nothing is changed then.
func TestNotRight(t *testing.T) {
	p := small()[2]
	l := []api.Cell{taken("a", p, 0), taken("b", open(p), 0), held("d", p, 0)}
	for _, key := range []string{"a", "b", "d", "x", ""} {
		for _, x := range wrongCells(key) {
			if limiter.Right(x.Policy, x.State) {
				t.Fatal("this one may be:", x)
			}
			for _, now := range []int{least, 0, 9, 1000, most} {
				for _, room := range []int{3, 4} {
					c := filled(t, room, l...)
					checkSet(t, "not Right", c, x, now, api.ErrArg)
					checkAll(t, "not Right", c, l...)
				}
				none := New(0)
				checkSet(t, "not Right, no room", none, x, now, api.ErrArg)
				checkAll(t, "not Right, no room", none)
			}
		}
	}
}

// TestClockBackward is of clocks that tell a time that is past, or none: what a state knows stays known.
func TestClockBackward(t *testing.T) {
	for _, p := range small() {
		a, b := taken("a", p, 1000), taken("b", open(p), 1000)
		for _, now := range []int{least, -1, 0, 999, 1000} {
			c := filled(t, 2, a, b)
			checkLook(t, "look", c, "a", p, now, a.State)
			checkLook(t, "look", c, "x", p, now, limiter.New(p, now))
			if n := c.Sweep(now); n != 0 {
				t.Fatalf("%v: Sweep(%d): %d", p, now, n)
			}
			checkAll(t, "swept", c, a, b)
			// Neither is Fresh then, however old the clock's time is: the Open one goes.
			x := taken("x", p, 1000)
			checkSet(t, "set", c, x, now, api.OK)
			checkAll(t, "set", c, a, x)
			checkSet(t, "set, full", c, taken("y", p, 1000), now, api.ErrFull)
			checkAll(t, "set, full", c, a, x)
			// A state that is younger than the clock's time is Fresh at its own.
			checkSet(t, "set, Fresh", c, newAt("a", p, 1000), now, api.OK)
			checkAll(t, "set, Fresh", c, x)
			// An older state takes the place of a younger one: the caller says what is so.
			old := taken("x", p, 3)
			checkSet(t, "set, older", c, old, min(now, 3), api.OK)
			checkAll(t, "set, older", c, old)
		}
		// A time of no clock is clipped.
		last := taken("z", p, api.MaxTime)
		c := filled(t, 1, last)
		for _, now := range []int{api.MaxTime, api.MaxTime + 1, most} {
			if n := c.Sweep(now); n != 0 {
				t.Fatalf("%v: Sweep(%d): %d", p, now, n)
			}
			checkSet(t, "at the end of time", c, taken("y", p, now), now, api.ErrFull)
			checkAll(t, "at the end of time", c, last)
		}
	}
}

// TestSweep sweeps each set of four: those that are left stay in their order.
func TestSweep(t *testing.T) {
	for _, p := range small() {
		for count := range 5 {
			for _, word := range words("lfophi", count) {
				c := New(6)
				var left []api.Cell
				for i := range word {
					x := told(word[i], "k"+strconv.Itoa(i), p)
					checkSet(t, word, c, x, 0, api.OK)
					if !strings.Contains("fp", word[i:i+1]) {
						left = append(left, x)
					}
				}
				if n := c.Sweep(1000); n != count-len(left) {
					t.Fatalf("%v, %s: Sweep %d", p, word, n)
				}
				checkAll(t, word, c, left...)
				if n := c.Sweep(1000); n != 0 {
					t.Fatalf("%v, %s: Sweep again %d", p, word, n)
				}
				checkAll(t, word, c, left...)
				x := taken("x", p, 1000)
				checkSet(t, word, c, x, 1000, api.OK)
				checkAll(t, word, c, append(left, x)...)
			}
		}
	}
}

// TestSweepInTime sweeps a row whose CELLS become Fresh one behind the other, and fills the row anew.
func TestSweepInTime(t *testing.T) {
	for _, p := range small() {
		c := New(100)
		for round := range 3 {
			begin := 100000 * round
			var l []api.Cell
			for i := range 100 {
				l = append(l, taken("k"+strconv.Itoa(i*37%100), p, begin+1000*i))
				checkSet(t, "fill", c, l[i], begin, api.OK)
			}
			checkAll(t, "fill", c, l...)
			for i := range l {
				if n := c.Sweep(begin + 1000*i + 999); n != 1 {
					t.Fatalf("%v: Sweep %d, after %d", p, n, i)
				}
				checkAll(t, "swept", c, l[i+1:]...)
			}
		}
	}
}

// TestNothingChanges is of the calls that only look.
func TestNothingChanges(t *testing.T) {
	for _, p := range small() {
		for _, l := range [][]api.Cell{nil, {taken("a", p, 0)}, {taken("a", p, 0), held("b", p, 0), taken("d", open(p), 0)}, numbered(50, p)} {
			for _, room := range []int{50, 60} {
				c := filled(t, room, l...)
				before := c.Copy()
				for range 2 {
					for _, x := range append(slices.Clone(l), newAt("missing", p, 0), newAt("", p, 0)) {
						for _, now := range []int{least, 0, 5000, most} {
							c.Look(x.Key, x.Policy, now)
							c.Look(x.Key, open(x.Policy), now)
							c.Look(x.Key, api.Policy{}, now)
						}
					}
					c.Len()
					c.All()
					c.Copy()
				}
				if c.room != before.room || !reflect.DeepEqual(c.cells, before.cells) {
					t.Errorf("%v, room %d: it is another one then", p, room)
				}
				checkAll(t, "looked", c, l...)
			}
		}
	}
}

// logged is a CELL with entries, with room behind them in their memory.
func logged(key string) api.Cell {
	p := small()[2]
	l := make([]api.Entry, 2, 5)
	l[0], l[1] = api.Entry{T: 3, Cost: 4}, api.Entry{T: 5, Cost: 2}
	return api.Cell{Key: key, Policy: p, State: api.State{At: 5, Log: l}}
}

// scribble writes over entries, and over the room behind them.
func scribble(l []api.Entry) {
	l = l[:cap(l)]
	for i := range l {
		l[i] = api.Entry{T: -7, Cost: -7}
	}
}

// TestMemoryIsNew writes over what was handed in, and over what came out.
func TestMemoryIsNew(t *testing.T) {
	p := small()[2]
	x := logged("a")
	c := New(3)
	checkSet(t, "set", c, x, 5, api.OK)
	checkSet(t, "set twice", c, api.Cell{Key: "b", Policy: p, State: x.State}, 5, api.OK)
	scribble(x.State.Log)
	check := func(when string, c *Cells) {
		t.Helper()
		checkAll(t, when, c, logged("a"), logged("b"))
		checkLook(t, when, c, "a", p, 5, logged("a").State)
	}
	check("written over what was Set", c)
	d := c.Copy()
	first, second := c.Look("a", p, 5), c.Look("a", p, 5)
	all, more, others := c.All(), c.All(), d.All()
	scribble(first.Log)
	for _, y := range all[:cap(all)] {
		scribble(y.State.Log)
	}
	for i := range all {
		all[i] = api.Cell{Key: "other"}
	}
	check("written over what came out", c)
	check("written over what came out", d)
	if !same(second, logged("a").State) || !slices.EqualFunc(more, []api.Cell{logged("a"), logged("b")}, sameCell) || !slices.EqualFunc(others, more, sameCell) {
		t.Error("what came out before:", second, more, others)
	}
	// Nobody's memory but its own: also inside.
	for _, y := range c.cells {
		scribble(y.State.Log)
	}
	check("written over what is kept", d)
	if !same(second, logged("a").State) || !slices.EqualFunc(more, others, sameCell) {
		t.Error("what came out before:", second, more)
	}
}

// TestEmptyLog is of a Log that is empty, but not nil: it is the same thing, and the room behind it is the caller's.
func TestEmptyLog(t *testing.T) {
	for _, p := range small() {
		x := held("a", p, 5)
		l := make([]api.Entry, 0, 3)
		x.State.Log = l
		c := filled(t, 2, x)
		checkAll(t, "empty", c, held("a", p, 5))
		for _, s := range []api.State{c.Look("a", p, 5), c.All()[0].State, c.Copy().Look("a", p, 5)} {
			if cap(s.Log) != 0 {
				scribble(s.Log)
				t.Errorf("%v: room behind what came out: %v", p, l[:3])
			}
		}
	}
}

// TestCopy changes one of two that were the same: the other one knows nothing of it.
func TestCopy(t *testing.T) {
	for _, p := range small() {
		a, b, d := taken("a", open(p), 0), held("b", p, 0), taken("d", p, 100)
		c := filled(t, 3, a, b, d)
		other := c.Copy()
		checkAll(t, "copied", other, a, b, d)
		x := taken("x", p, 1)
		checkSet(t, "one", c, x, 1, api.OK)
		checkAll(t, "one", c, b, d, x)
		checkAll(t, "the other", other, a, b, d)
		if n := other.Sweep(100); n != 1 {
			t.Fatal("swept", n)
		}
		y := taken("y", p, 150)
		checkSet(t, "the other", other, y, 100, api.OK)
		checkSet(t, "the other", other, b, 100, api.OK)
		checkAll(t, "the other", other, d, y, b)
		checkAll(t, "one", c, b, d, x)
		checkSet(t, "the other, full", other, taken("z", p, 100), 100, api.ErrFull)
		checkSet(t, "one", c, newAt("d", p, 1), 1, api.OK)
		checkAll(t, "one", c, b, x)
		checkLook(t, "the other", other, "d", p, 1, d.State)
		third := c.Copy().Copy()
		checkAll(t, "a copy's copy", third, b, x)
		checkSet(t, "a copy's copy", third, d, 1, api.OK)
		checkSet(t, "a copy's copy", third, y, 1, api.ErrFull)
		checkAll(t, "one", c, b, x)
	}
	empty := New(0).Copy()
	checkAll(t, "empty", empty)
	checkSet(t, "empty", empty, taken("a", small()[0], 0), 0, api.ErrFull)
}

// TestNothingIsMade keeps nothing: nil Cells, such as New did not make, and copies of them.
func TestNothingIsMade(t *testing.T) {
	var none *Cells
	var noughts Cells
	copied := noughts
	for i, c := range []*Cells{none, &noughts, &copied, new(Cells)} {
		when := "not made, " + strconv.Itoa(i)
		for _, p := range append(small(), api.Policy{}, open(small()[0])) {
			for _, now := range []int{least, -1, 0, 7, api.MaxTime, most} {
				for _, key := range []string{"", "a"} {
					checkLook(t, when, c, key, p, now, limiter.New(p, now))
					checkSet(t, when, c, newAt(key, p, 0), now, api.ErrNil)
					checkSet(t, when, c, api.Cell{Key: key, Policy: p, State: api.State{At: -1}}, now, api.ErrNil)
				}
				if n := c.Sweep(now); n != 0 {
					t.Errorf("%s: Sweep(%d): %d", when, now, n)
				}
			}
		}
		for _, p := range small() {
			checkSet(t, when, c, taken("a", p, 0), 0, api.ErrNil)
			checkSet(t, when, c, held("a", open(p), 0), 0, api.ErrNil)
		}
		checkAll(t, when, c)
		if other := c.Copy(); other != nil {
			t.Errorf("%s: Copy %v", when, other)
		}
	}
}

// TestCopiedByValue is one row by two names: neither breaks the other.
func TestCopiedByValue(t *testing.T) {
	p := small()[0]
	l := numbered(20, p)
	c := filled(t, 20, l[:2]...)
	d := *c
	for i, x := range l[2:] {
		checkSet(t, "one of them", []*Cells{c, &d}[i%2], x, 0, api.OK)
	}
	checkAll(t, "one name", c, l...)
	checkAll(t, "the other", &d, l...)
	checkSet(t, "the other", &d, newAt("k7", p, 0), 0, api.OK)
	checkAll(t, "one name", c, without(l, "k7")...)
}

func TestTwoCells(t *testing.T) {
	for _, p := range small() {
		a, b := taken("a", p, 0), taken("b", p, 0)
		c, d := New(1), New(2)
		checkSet(t, "one", c, a, 0, api.OK)
		checkAll(t, "the other", d)
		checkSet(t, "the other", d, b, 0, api.OK)
		checkSet(t, "the other", d, held("a", p, 0), 0, api.OK)
		checkSet(t, "one", c, b, 0, api.ErrFull)
		checkAll(t, "one", c, a)
		if n := c.Sweep(500); n != 1 {
			t.Fatal("swept", n)
		}
		checkAll(t, "the other", d, b, held("a", p, 0))
		checkLook(t, "one", c, "b", p, 3, limiter.New(p, 3))
	}
}

// TestGreatestStates keeps the longest Logs, the longest keys, and the greatest numbers as they are.
func TestGreatestStates(t *testing.T) {
	p := api.Policy{Kind: api.Log, Limit: api.MaxLimit, Period: api.MaxPeriod, Cap: api.MaxLog}
	q := api.Policy{Kind: api.Bucket, Limit: 1, Period: api.MaxPeriod, Burst: api.MaxLimit}
	c := New(50)
	var l []api.Cell
	for i := range 25 {
		s := api.State{At: api.MaxTime}
		for j := range api.MaxLog {
			s.Log = append(s.Log, api.Entry{T: api.MaxTime - api.MaxLog + j, Cost: 1 + i + j})
		}
		key := strings.Repeat("\xff", 100000+i)
		l = append(l, api.Cell{Key: key, Policy: p, State: s}, api.Cell{Key: key[1:] + "x", Policy: q, State: api.State{At: i, Level: api.MaxPeriod*api.MaxLimit - 1}})
	}
	for _, x := range l {
		checkSet(t, "great", c, x, 0, api.OK)
	}
	checkAll(t, "great", c, l...)
	for _, x := range l {
		checkLook(t, "great", c, x.Key, x.Policy, 0, x.State)
	}
	checkAll(t, "great, copied", c.Copy(), l...)
}

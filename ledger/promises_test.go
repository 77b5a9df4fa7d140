package ledger

import (
	"slices"
	"testing"

	"tapster/api"
)

// plain is a list that does what a Ledger does. It tells how often which way was gone.
type plain struct {
	list []api.Due
	last int
	gone map[string]int
}

func (l *plain) add(till int, x []api.Limit) (int, api.Errno) {
	if len(l.list) == 1000 {
		l.gone["full"]++
		return 0, api.ErrFull
	}
	l.gone["added"]++
	l.last++
	l.list = append(l.list, due(l.last, clipped(till), slices.Clone(x)...))
	return l.last, api.OK
}

func (l *plain) find(id int) (api.Due, bool) {
	for _, x := range l.list {
		if x.ID == id {
			return x, true
		}
	}
	return api.Due{}, false
}

func (l *plain) remove(id int) (api.Due, bool) {
	x, is := l.find(id)
	if is {
		l.gone["removed"]++
	} else {
		l.gone["not there"]++
	}
	l.list = without(l.list, id)
	return x, is
}

// next goes by the list, which is by IDs, so that the first one of the least Till is the one.
func (l *plain) next() (api.Due, bool) {
	if len(l.list) == 0 {
		return api.Due{}, false
	}
	first := l.list[0]
	for _, x := range l.list {
		if x.Till < first.Till {
			first = x
		}
	}
	return first, true
}

func (l *plain) due(now int) []api.Due {
	var come []api.Due
	for {
		x, is := l.next()
		if !is || x.Till > clipped(now) {
			break
		}
		come = append(come, x)
		l.list = without(l.list, x.ID)
	}
	switch {
	case len(come) == 0:
		l.gone["none due"]++
	case len(l.list) == 0:
		l.gone["all due"]++
	default:
		l.gone["some due"]++
	}
	return come
}

// both are a Ledger and the list that does the same.
type both struct {
	ledger *Ledger
	plain  *plain
}

func newBoth(gone map[string]int) both {
	return both{New(), &plain{gone: gone}}
}

func (b both) copied() both {
	return both{b.ledger.Copy(), &plain{slices.Clone(b.plain.list), b.plain.last, b.plain.gone}}
}

func (b both) add(t testing.TB, till int, x ...api.Limit) {
	t.Helper()
	want, errno := b.plain.add(till, x)
	if got, e := b.ledger.Add(till, x...); got != want || e != errno {
		t.Fatalf("Add(%d, %v): %d, %d, not %d, %d", till, x, got, e, want, errno)
	}
}

func (b both) remove(t testing.TB, id int) {
	t.Helper()
	want, there := b.plain.remove(id)
	if got, is := b.ledger.Remove(id); is != there || !same(got, want) {
		t.Fatalf("Remove(%d): %v, %t, not %v, %t", id, got, is, want, there)
	}
}

func (b both) due(t testing.TB, now int) {
	t.Helper()
	checkDue(t, "both", b.ledger, now, b.plain.due(now)...)
}

// look holds what both tell of an ID, and what comes next.
func (b both) look(t testing.TB, id int) {
	t.Helper()
	want, there := b.plain.find(id)
	if got, is := b.ledger.Get(id); is != there || !same(got, want) {
		t.Fatalf("Get(%d): %v, %t, not %v, %t", id, got, is, want, there)
	}
	want, there = b.plain.next()
	if got, is := b.ledger.Next(); is != there || !same(got, want) {
		t.Fatalf("Next: %v, %t, not %v, %t", got, is, want, there)
	}
	if got := b.ledger.Len(); got != len(b.plain.list) {
		t.Fatalf("Len: %d, not %d", got, len(b.plain.list))
	}
}

func (b both) checkAll(t testing.TB) {
	t.Helper()
	checkAll(t, "both", b.ledger, b.plain.last, b.plain.list...)
}

// scattered draws numbers from 0 to below count, the same in every run.
func scattered() func(count int) int {
	x := uint64(88172645463325252)
	return func(count int) int {
		x ^= x << 13
		x ^= x >> 7
		x ^= x << 17
		return int((x >> 11) % uint64(count))
	}
}

// A walk is what happens to a Ledger, one call behind the other, by a clock that leaps.
type walk struct {
	clock int
	// How far ahead a Till may lie, and how often, of 20, one is added, and of 200, what is due is asked for.
	ahead, adds, dues int
	lists             [][]api.Limit
	draw              func(count int) int
}

// time is now, mostly, or earlier, or at an edge.
func (w *walk) time() int {
	switch w.draw(15) {
	case 0:
		return w.clock - w.draw(30)
	case 1:
		return edges()[w.draw(len(edges()))]
	default:
		return w.clock
	}
}

// id is one of those that were told, mostly.
func (w *walk) id(last int) int {
	if w.draw(10) == 0 {
		return []int{least, -1, 0, last, last + 1, last + 1<<32, most}[w.draw(7)]
	}
	return 1 + w.draw(last+1)
}

// step does one call to both.
func (w *walk) step(t testing.TB, b both) {
	t.Helper()
	w.clock += w.draw(3)
	till := w.time() + w.draw(w.ahead)
	x := w.lists[w.draw(len(w.lists))]
	id := w.id(b.plain.last)
	switch {
	case w.draw(20) < w.adds:
		b.add(t, till, x...)
	case w.draw(200) < w.dues:
		b.due(t, w.time())
	default:
		b.remove(t, id)
	}
	b.look(t, id)
}

// TestAnyInput walks Ledgers and the plain list through the same calls, such as stay short and such as grow full: all of them end without a panic and tell the same.
func TestAnyInput(t *testing.T) {
	gone := map[string]int{}
	draw := scattered()
	all := lists()
	for _, w := range []walk{{0, 5, 10, 100, all, draw}, {0, 50, 10, 50, all, draw}, {1000, 300, 14, 20, all, draw}, {late - 500, 2000, 10, 60, all, draw}, {0, 1 << 40, 18, 3, all, draw}, {5, late, 18, 1, all, draw}} {
		for range 2 {
			b := newBoth(gone)
			for step := range 3000 {
				w.step(t, b)
				if step%100 == 0 {
					b.checkAll(t)
				}
				if draw(80) == 0 {
					origin := b
					b = b.copied()
					b.checkAll(t)
					w.step(t, origin)
					w.step(t, origin)
					origin.checkAll(t)
				}
			}
			b.checkAll(t)
		}
	}
	for _, way := range []string{"full", "added", "removed", "not there", "none due", "some due", "all due"} {
		if gone[way] < 200 {
			t.Fatal("too little happened to tell:", gone)
		}
	}
}

// TestAllSmall tries all calls of three times and the first four IDs, up to five behind one another.
func TestAllSmall(t *testing.T) {
	var try func(b both, depth int)
	try = func(b both, depth int) {
		b.checkAll(t)
		if depth == 0 {
			return
		}
		after := func(do func(b both)) {
			next := b.copied()
			do(next)
			try(next, depth-1)
		}
		for now := range 3 {
			after(func(b both) { b.add(t, now, limitOf(now)) })
			after(func(b both) { b.due(t, now) })
		}
		for id := 1; id <= 4; id++ {
			after(func(b both) { b.remove(t, id) })
		}
	}
	try(newBoth(map[string]int{}), 5)
}

// TestWhatIsKept is the sixth promise, as far as a Ledger bears it: what is held is there behind each call, as it was written down, till it is removed, or a Due was asked for at its time or later.
func TestWhatIsKept(t *testing.T) {
	draw := scattered()
	all := lists()
	stayed, removed, refused, gone := 0, 0, 0, 0
	for _, ahead := range []int{3, 40, 4000} {
		l := New()
		held := map[int]api.Due{}
		clock, last := 0, 0
		for step := range 8000 {
			clock += draw(2)
			switch draw(40) {
			case 0:
				clock -= draw(10)
				for _, x := range l.Due(clock) {
					if held[x.ID].ID != x.ID || x.Till > clipped(clock) {
						t.Fatalf("Due(%d): %v", clock, x)
					}
					delete(held, x.ID)
					gone++
				}
				for _, x := range held {
					if x.Till <= clipped(clock) {
						t.Fatalf("Due(%d): not %v", clock, x)
					}
				}
			case 1, 2:
				id := 1 + draw(last+1)
				if _, is := l.Remove(id); is {
					removed++
				}
				delete(held, id)
			default:
				x := due(last+1, clipped(clock+draw(ahead)), all[draw(len(all))]...)
				if id, errno := l.Add(x.Till, x.Limits...); errno != api.OK {
					refused++
				} else if last++; id != last {
					t.Fatal("Add:", id)
				} else {
					held[id] = x
				}
			}
			if l.Len() != len(held) {
				t.Fatalf("%d are written down, not %d", l.Len(), len(held))
			}
			// All are looked at now and then, one of them each time.
			for id, x := range held {
				got, is := l.Get(id)
				checkOne(t, "kept", got, is, x)
				stayed++
				if step%100 > 0 {
					break
				}
			}
		}
	}
	if stayed < 10000 || removed < 200 || refused < 1000 || gone < 5000 {
		t.Fatal("too little happened to tell:", stayed, removed, refused, gone)
	}
}

// TestInOrder is what the chapter says that holds: what is due comes in the order of its times, of one call and of several by a clock that goes on, each once, and none ahead of its time.
func TestInOrder(t *testing.T) {
	draw := scattered()
	for range 200 {
		l := New()
		count, ahead := draw(60), 1+draw(100)
		for id := 1; id <= count; id++ {
			checkAdd(t, "in order", l, draw(ahead), id)
		}
		var all []api.Due
		for now := -1; now <= ahead; now += 1 + draw(20) {
			for _, x := range l.Due(now) {
				if x.Till > clipped(now) {
					t.Fatalf("Due(%d): %v", now, x)
				}
				all = append(all, x)
			}
			if next, is := l.Next(); is && next.Till <= clipped(now) {
				t.Fatalf("behind Due(%d): %v", now, next)
			}
		}
		all = append(all, l.Due(ahead)...)
		if len(all) != count {
			t.Fatal(len(all), "were due, not", count)
		}
		for i, x := range all {
			if i > 0 && (all[i-1].Till > x.Till || all[i-1].Till == x.Till && all[i-1].ID >= x.ID) {
				t.Fatalf("%v ahead of %v", all[i-1], x)
			}
		}
	}
}

// TestOrderOfAdds: whatever order dues are written down in, they come by their Tills.
func TestOrderOfAdds(t *testing.T) {
	var try func(tills, left []int)
	try = func(tills, left []int) {
		all := numbered(tills...)
		come, rest := split(all, 2)
		l := filled(t, tills...)
		checkDue(t, "order", l, 2, come...)
		checkAll(t, "order", l, len(all), rest...)
		for i, till := range left {
			try(append(slices.Clone(tills), till), slices.Delete(slices.Clone(left), i, i+1))
		}
	}
	try(nil, []int{1, 1, 2, 2, 3, 3})
}

// FuzzLedger looks for calls that the walks miss: go test -fuzz=FuzzLedger ./ledger.
func FuzzLedger(f *testing.F) {
	f.Add([]byte("\x00\x09\x00\x05\x00\x05\x01\x05"))
	f.Add([]byte("\x04\x35\x08\x36\x0c\xff\x02\x01\x02\x01\x01\x7f"))
	f.Add([]byte("\x00\x01\x03\x00\x10\x01\x03\x01\x01\x00\x00\x02"))
	f.Add([]byte{0xfc, 1, 0xfc, 2, 0xfc, 3, 0xfc, 4, 0xfc, 5, 0xfc, 6, 0xfc, 7, 0xfc, 8, 0xfc, 9, 0xfc, 10, 0xfc, 11, 0xfc, 12, 0xfc, 13, 0xfc, 14, 0xfc, 15, 0xfc, 16, 0xfc, 17, 1, 9})
	f.Fuzz(func(t *testing.T, calls []byte) {
		b := newBoth(map[string]int{})
		for l := range slices.Chunk(calls, 2) {
			if len(l) < 2 {
				break
			}
			// Times are small numbers, of both signs, or powers of two, and such as are one less.
			n, more := int(int8(l[1])), int(l[0]>>2)
			time := n
			if n < -64 {
				time = 1<<(n&63) - int(l[0]>>7)
			}
			switch l[0] & 3 {
			case 0:
				for range 1 + more {
					b.add(t, time, lists()[more%len(lists())]...)
				}
			case 1:
				b.due(t, time)
			case 2:
				b.remove(t, n+128*more)
			default:
				origin := b
				b = b.copied()
				origin.due(t, time)
				origin.add(t, time)
				origin.remove(t, n)
			}
			b.look(t, n)
		}
		b.checkAll(t)
	})
}

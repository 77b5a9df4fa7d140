package vars

import (
	"math/big"
	"slices"
	"strconv"
	"strings"
	"testing"

	"tapster/api"
)

// plain is a list that does what Vars do. It tells how often which way was gone.
type plain struct {
	room int
	list []given
	gone map[string]int
}

// find tells where a key stands that is there, or -1.
func (l *plain) find(key string, now int) int {
	return slices.IndexFunc(l.list, func(x given) bool { return x.key == key && x.there(now) })
}

func (l *plain) count(now int) int {
	count := 0
	for _, x := range l.list {
		if x.there(now) {
			count++
		}
	}
	return count
}

// begin is of a key that is not there.
func (l *plain) begin(key string, n, now int) api.Errno {
	if l.count(now) >= l.room {
		l.gone["full"]++
		return api.ErrFull
	}
	before := len(l.list)
	l.list = slices.DeleteFunc(l.list, func(x given) bool { return !x.there(now) })
	if before > len(l.list) {
		l.gone["taken away"]++
	}
	l.list = append(l.list, given{key, n, -1})
	l.gone["new"]++
	return api.OK
}

func (l *plain) set(key string, n, now int) api.Errno {
	i := l.find(key, now)
	if i < 0 {
		return l.begin(key, n, now)
	}
	if l.list[i].end != -1 {
		l.gone["no END any more"]++
	}
	l.list[i] = given{key, n, -1}
	return api.OK
}

func (l *plain) add(key string, n, now int) (int, api.Errno) {
	i := l.find(key, now)
	if i < 0 {
		if errno := l.begin(key, n, now); errno != api.OK {
			return 0, errno
		}
		return n, api.OK
	}
	sum := new(big.Int).Add(big.NewInt(int64(l.list[i].n)), big.NewInt(int64(n)))
	if !sum.IsInt64() {
		l.gone["too great"]++
		return 0, api.ErrOver
	}
	l.gone["added"]++
	l.list[i].n = int(sum.Int64())
	return l.list[i].n, api.OK
}

func (l *plain) remove(key string, now int) bool {
	i := l.find(key, now)
	if i >= 0 {
		l.gone["deleted"]++
		l.list = slices.Delete(l.list, i, i+1)
	}
	return i >= 0
}

func (l *plain) expire(key string, last, now int) bool {
	i := l.find(key, now)
	if i >= 0 {
		l.gone["expired"]++
		end := new(big.Int).Add(big.NewInt(int64(clipped(now))), big.NewInt(int64(max(last, 0))))
		l.list[i].end = late
		if end.Cmp(big.NewInt(late)) < 0 {
			l.list[i].end = int(end.Int64())
		}
	}
	return i >= 0
}

func (l *plain) copied() *plain {
	return &plain{l.room, slices.Clone(l.list), l.gone}
}

// both are Vars and the list that does the same.
type both struct {
	vars  *Vars
	plain *plain
}

func newBoth(room int, gone map[string]int) both {
	return both{New(room), &plain{room: min(max(room, 0), 10000), gone: gone}}
}

func (b both) copied() both {
	return both{b.vars.Copy(), b.plain.copied()}
}

// act does one of the calls that may change something to both.
func (b both) act(t *testing.T, kind int, key string, n, now int) {
	t.Helper()
	switch kind {
	case 0:
		checkSet(t, "both", b.vars, key, n, now, b.plain.set(key, n, now))
	case 1:
		want, errno := b.plain.add(key, n, now)
		checkAdd(t, "both", b.vars, key, n, now, want, errno)
	case 2:
		checkDelete(t, "both", b.vars, key, now, b.plain.remove(key, now))
	case 3:
		checkExpire(t, "both", b.vars, key, n, now, b.plain.expire(key, n, now))
	}
}

// look holds what both tell of a key, and how many are there.
func (b both) look(t *testing.T, key string, now int) {
	t.Helper()
	x := given{}
	i := b.plain.find(key, now)
	if i >= 0 {
		x = b.plain.list[i]
	}
	checkOne(t, "both", b.vars, key, now, x, i >= 0)
	if got, want := b.vars.Len(now), b.plain.count(now); got != want {
		t.Fatalf("Len(%d): %d, not %d", now, got, want)
	}
}

// scattered draws numbers from 0 to below count, the same in every run.
func scattered() func(count int) int {
	x := uint64(88172645463325252)
	return func(count int) int {
		x ^= x << 13
		x ^= x >> 7
		x ^= x << 17
		return int((x >> 11) % uint64(count))
	}
}

// A walk is what happens to Vars, one call behind the other, by a clock that leaps.
type walk struct {
	keys  []string
	clock int
	draw  func(count int) int
}

// next are the numbers of the next call: its kind, what it is of, and when.
func (w *walk) next() (kind int, key string, n, now int) {
	w.clock += w.draw(5)
	now = w.clock
	switch w.draw(12) {
	case 0:
		now -= w.draw(80)
	case 1:
		now = []int{least, -1, 0, 1, late - 1, late, late + 1, most}[w.draw(8)]
	}
	kind = w.draw(4)
	n = w.draw(60) - 5
	if w.draw(3) == 0 {
		n = []int{least, least + 1, -1 << 62, -1, 0, 1, 1 << 62, late, most - 1, most}[w.draw(10)]
	}
	return kind, w.keys[w.draw(len(w.keys))], n, now
}

// strangeKeys are such as maps may take for one another, or stumble over.
func strangeKeys() []string {
	return []string{"", " ", "\x00", "\x00\x00", "a", "A", "a\x00", "é", "e\u0301", "\xff", "\xff\xfe", "\ufffd", "a:", `a\:`, "0", "-1", strings.Repeat("k", 3000), strings.Repeat("k", 2999) + "l"}
}

func namedKeys(count int) []string {
	l := make([]string, count)
	for i := range l {
		l[i] = "k" + strconv.Itoa(i)
	}
	return l
}

// enough tells whether each way was gone that often at least.
func enough(t *testing.T, gone map[string]int, least int) {
	t.Helper()
	for _, way := range []string{"full", "taken away", "new", "no END any more", "too great", "added", "deleted", "expired"} {
		if gone[way] < least {
			t.Fatal("too little happened to tell:", gone)
		}
	}
}

// TestAnyInput walks Vars of many rooms and the plain list through the same calls: all of them end without a panic and tell the same.
func TestAnyInput(t *testing.T) {
	gone := map[string]int{}
	draw := scattered()
	for _, keys := range [][]string{namedKeys(2), namedKeys(5), namedKeys(30), strangeKeys()} {
		for _, room := range []int{least, -1, 0, 1, 2, 3, 4, 12, 25, 10000, most} {
			b := newBoth(room, gone)
			w := &walk{keys, draw(2000), draw}
			for step := range 1200 {
				kind, key, n, now := w.next()
				b.act(t, kind, key, n, now)
				b.look(t, key, now)
				b.look(t, keys[draw(len(keys))], now-draw(20))
				if step%15 == 0 {
					checkAll(t, "walk", b.vars, b.plain.list...)
				}
				if draw(40) == 0 {
					origin := b
					b = b.copied()
					origin.act(t, draw(4), key, n, now)
				}
			}
			checkAll(t, "walk", b.vars, b.plain.list...)
		}
	}
	enough(t, gone, 300)
}

// TestAllSmall tries all calls of few keys and times, up to three behind one another, from several beginnings.
func TestAllSmall(t *testing.T) {
	var try func(b both, depth int)
	try = func(b both, depth int) {
		checkAll(t, "small", b.vars, b.plain.list...)
		if depth == 0 {
			return
		}
		for _, key := range []string{"a", "b"} {
			for now := range 3 {
				for kind := range 4 {
					for n := range []int{1, 1, 1, 3}[kind] {
						next := b.copied()
						next.act(t, kind, key, n, now)
						try(next, depth-1)
					}
				}
			}
		}
	}
	for room := range 4 {
		gone := map[string]int{}
		try(newBoth(room, gone), 2)
		b := newBoth(room, gone)
		for i, key := range []string{"a", "x", "b"} {
			b.act(t, 0, key, i, 0)
			b.act(t, 3, key, i, i)
		}
		try(b, 3)
	}
}

// TestGreatVars walks Vars of many keys, which grow, stay full, and end, many at one time.
func TestGreatVars(t *testing.T) {
	gone := map[string]int{}
	draw := scattered()
	for _, room := range []int{300, 700} {
		b := newBoth(room, gone)
		w := &walk{namedKeys(1000), 0, draw}
		for step := range 12000 {
			kind, key, n, now := w.next()
			if kind == 2 && step%7 > 0 {
				kind = 1
			}
			if kind == 3 {
				n *= 50
			}
			b.act(t, kind, key, n, now)
			b.look(t, key, now)
			if step%1500 == 1499 {
				checkAt(t, "walk", b.vars, w.clock, b.plain.list)
				checkInside(t, "walk", b.vars, b.plain.list...)
				w.clock += 1500
			}
		}
		checkAll(t, "walk", b.vars, b.plain.list...)
	}
	enough(t, gone, 20)
}

// TestWhatEndedIsGone is what the chapter says that holds: from its END on no call knows a key, and it is as one that was never there.
func TestWhatEndedIsGone(t *testing.T) {
	draw := scattered()
	ended := 0
	for range 300 {
		// The same happens to both, but for some keys that one of them had before, and that have ended.
		v, w := New(6), New(6)
		begin := draw(100)
		for i := range 1 + draw(6) {
			key := "k" + strconv.Itoa(i)
			checkSet(t, "before", v, key, i, 0, api.OK)
			checkExpire(t, "before", v, key, draw(begin+1), 0, true)
		}
		walk := &walk{namedKeys(8), begin, draw}
		for range 40 {
			kind, key, n, now := walk.next()
			now = max(now, begin)
			ended += len(v.numbers) - v.Len(now)
			switch kind {
			case 0:
				checkSet(t, "ended", v, key, n, now, w.Set(key, n, now))
			case 1:
				want, errno := w.Add(key, n, now)
				checkAdd(t, "ended", v, key, n, now, want, errno)
			case 2:
				checkDelete(t, "ended", v, key, now, w.Delete(key, now))
			case 3:
				checkExpire(t, "ended", v, key, n, now, w.Expire(key, n, now))
			}
			n, there := w.Get(key, now)
			left, _ := w.Left(key, now)
			if n2, is := v.Get(key, now); n2 != n || is != there {
				t.Fatalf("Get(%q, %d): %d, %t, not %d, %t", key, now, n2, is, n, there)
			}
			if left2, is := v.Left(key, now); left2 != left || is != there {
				t.Fatalf("Left(%q, %d): %d, %t, not %d, %t", key, now, left2, is, left, there)
			}
			if v.Len(now) != w.Len(now) || !slices.Equal(v.Keys(now), w.Keys(now)) {
				t.Fatalf("at %d: %q, not %q", now, v.Keys(now), w.Keys(now))
			}
		}
	}
	if ended < 2000 {
		t.Fatal("too little had ended to tell:", ended)
	}
}

// FuzzVars looks for calls that the walks miss: go test -fuzz=FuzzVars ./vars.
func FuzzVars(f *testing.F) {
	f.Add(1, []byte("\x00a\x05\x00\x03a\x05\x00\x00b\x05\x04\x00b\x05\x01"))
	f.Add(0, []byte("\x00a\x05\x00\x01\x00\x05\x00"))
	f.Add(2, []byte("\x08a\x05\x00\x09a\x05\x00\x01a\x05\x01\x02d\x05\x01\x03a\xff\x01\x01a\x05\xff"))
	f.Add(-1, []byte("\x02a\x05\x00"))
	f.Add(10001, []byte("\x00a\x05\x00\x0ba\x05\x00\x13a\x15\x00\x01a\x05\x7f\x00a\x05\x80"))
	f.Fuzz(func(t *testing.T, room int, calls []byte) {
		b := newBoth(room, map[string]int{})
		clock := 0
		for l := range slices.Chunk(calls, 4) {
			if len(l) < 4 {
				break
			}
			clock += int(int8(l[3]))
			n := int(int8(l[2]))
			// The call's higher bits make its number a great one, and its key a long one.
			if l[0]&4 > 0 {
				n <<= 56
			}
			key := strings.Repeat(string(l[1:2]), int(l[0]>>4))
			b.act(t, int(l[0]&3), key, n, clock)
			b.look(t, key, clock)
			if l[0]&8 > 0 {
				b = b.copied()
			}
		}
		checkAll(t, "calls", b.vars, b.plain.list...)
	})
}

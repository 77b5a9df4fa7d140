package table

import (
	"slices"
	"strconv"
	"strings"
	"testing"
)

// plain is a list that does what a table does: its keys, from the OLDEST on, each with its value.
type plain struct {
	room   int
	keys   []string
	values []int
}

func (p *plain) put(key string, n int) bool {
	if !p.remove(key) && len(p.keys) >= p.room {
		return false
	}
	p.keys = append(p.keys, key)
	p.values = append(p.values, n)
	return true
}

func (p *plain) get(key string) (int, bool) {
	n, ok := p.peek(key)
	if ok {
		p.put(key, n)
	}
	return n, ok
}

func (p *plain) peek(key string) (int, bool) {
	i := slices.Index(p.keys, key)
	if i < 0 {
		return 0, false
	}
	return p.values[i], true
}

func (p *plain) remove(key string) bool {
	i := slices.Index(p.keys, key)
	if i < 0 {
		return false
	}
	p.keys = slices.Delete(p.keys, i, i+1)
	p.values = slices.Delete(p.values, i, i+1)
	return true
}

func (p *plain) oldest() (string, int, bool) {
	if len(p.keys) == 0 {
		return "", 0, false
	}
	return p.keys[0], p.values[0], true
}

func (p *plain) next(key string) (string, bool) {
	i := slices.Index(p.keys, key)
	if i < 0 || i+1 == len(p.keys) {
		return "", false
	}
	return p.keys[i+1], true
}

// both is a table and the list that does the same.
type both struct {
	table *Table
	plain *plain
}

func newBoth(room int) both {
	return both{New(room), &plain{room: min(max(room, 0), 10000)}}
}

// act does one of the calls that may change something to both.
func (b both) act(t *testing.T, kind int, key string, n int) {
	t.Helper()
	switch kind % 4 {
	case 0, 1:
		if got, want := b.table.Put(key, n), b.plain.put(key, n); got != want {
			t.Fatalf("Put(%q, %d): %t, not %t", key, n, got, want)
		}
	case 2:
		got, ok := b.table.Get(key)
		if want, there := b.plain.get(key); got != want || ok != there {
			t.Fatalf("Get(%q): %d, %t, not %d, %t", key, got, ok, want, there)
		}
	case 3:
		if got, want := b.table.Delete(key), b.plain.remove(key); got != want {
			t.Fatalf("Delete(%q): %t, not %t", key, got, want)
		}
	}
}

// look holds all that both tell of a key.
func (b both) look(t *testing.T, key string) {
	t.Helper()
	got, ok := b.table.Peek(key)
	if want, there := b.plain.peek(key); got != want || ok != there {
		t.Fatalf("Peek(%q): %d, %t, not %d, %t", key, got, ok, want, there)
	}
	next, ok := b.table.Next(key)
	if want, there := b.plain.next(key); next != want || ok != there {
		t.Fatalf("Next(%q): %q, %t, not %q, %t", key, next, ok, want, there)
	}
	oldest, got, ok := b.table.Oldest()
	if want, n, there := b.plain.oldest(); oldest != want || got != n || ok != there {
		t.Fatalf("Oldest: %q, %d, %t, not %q, %d, %t", oldest, got, ok, want, n, there)
	}
	if got, want := b.table.Len(), len(b.plain.keys); got != want {
		t.Fatalf("Len: %d, not %d", got, want)
	}
}

// lookAll holds all that both tell.
func (b both) lookAll(t *testing.T) {
	t.Helper()
	if got := b.table.Keys(); !slices.Equal(got, b.plain.keys) {
		t.Fatalf("Keys: %q, not %q", got, b.plain.keys)
	}
	for _, key := range b.plain.keys {
		b.look(t, key)
	}
	checkWhole(t, b.table)
}

// scattered draws numbers from 0 to below count, the same in every run.
func scattered() func(count int) int {
	x := uint64(88172645463325252)
	return func(count int) int {
		x ^= x << 13
		x ^= x >> 7
		x ^= x << 17
		return int((x >> 11) % uint64(count))
	}
}

// strangeKeys are such as other maps may take for one another, or stumble over.
func strangeKeys() []string {
	l := []string{"", " ", "\x00", "\x00\x00", "a", "A", "a\x00", "a ", "é", "e\u0301", "\xff", "\xff\xfe", "\xc3", "\ufffd", "a:", `a\:`, "nobody", "0", "00", "-1"}
	for _, count := range []int{100, 1000, 5000} {
		l = append(l, strings.Repeat("k", count), strings.Repeat("k", count-1)+"l", "l"+strings.Repeat("k", count-1))
	}
	return l
}

// TestAnyInput walks tables of many rooms through calls of few keys and of many, of ordinary keys and of strange ones.
func TestAnyInput(t *testing.T) {
	draw := scattered()
	values := []int{0, 1, -1, 7, least, greatest}
	for _, keys := range [][]string{numbered(3), numbered(12), numbered(200), strangeKeys(), slices.Concat(oneSum()...), sharing(0, 64, 40), sharing(few-1, few, 12), append(sharing(6, few, 4), sharing(7, few, 4)...)} {
		for _, room := range []int{least, -1, 0, 1, 2, 3, 4, 7, 8, 20, 150, 10000, greatest} {
			b := newBoth(room)
			for step := range 600 {
				key := keys[draw(len(keys))]
				b.act(t, draw(4), key, values[draw(len(values))])
				b.look(t, key)
				b.look(t, keys[draw(len(keys))])
				if step%20 == 0 {
					b.lookAll(t)
				}
			}
			b.lookAll(t)
		}
	}
}

// TestGreatTables walks tables of thousands of keys, which grow, stay full, and shrink again.
func TestGreatTables(t *testing.T) {
	draw := scattered()
	for _, room := range []int{1000, 2500} {
		b := newBoth(room)
		for _, kinds := range [][]int{{0, 1, 2}, {0, 1, 2, 3}, {2, 3}, {0, 3}} {
			for range 3000 {
				key := strconv.Itoa(draw(3000))
				b.act(t, kinds[draw(len(kinds))], key, draw(1000))
				b.look(t, key)
			}
			b.lookAll(t)
		}
	}
}

// TestWhatIsKept is the sixth promise, as far as a table bears it: of what was put nothing is forgotten, with its value, whatever else is put, got or deleted; however full it is.
func TestWhatIsKept(t *testing.T) {
	draw := scattered()
	for _, room := range []int{1, 2, 10, 1000, 10000, 10001} {
		keys := numbered(min(room, 10000))
		x := filled(t, room, keys...)
		kept := make([]bool, len(keys))
		for i := range keys {
			kept[i] = i%3 != 2
		}
		for range 5 * len(keys) {
			i := draw(len(keys))
			switch draw(5) {
			case 0:
				x.Get(keys[i])
			case 1:
				x.Put(keys[i], i+1)
			case 2:
				if !kept[i] {
					x.Delete(keys[i])
				}
			case 3:
				x.Put("more"+strconv.Itoa(i), i)
			case 4:
				x.Delete("more" + strconv.Itoa(draw(len(keys))))
			}
		}
		for i, key := range keys {
			if n, ok := x.Peek(key); kept[i] && (n != i+1 || !ok) {
				t.Fatalf("room %d: Peek(%q): %d, %t", room, key, n, ok)
			}
		}
		if told := x.Keys(); x.Len() > 10000 || len(told) != x.Len() {
			t.Fatalf("room %d: Len %d, %d Keys", room, x.Len(), len(told))
		}
		checkWhole(t, x)
	}
}

// FuzzTable looks for calls that the walks miss: go test -fuzz=FuzzTable ./table.
func FuzzTable(f *testing.F) {
	f.Add(2, []byte("\x04a\x04b\x06a\x04c"))
	f.Add(0, []byte("\x04a\x07a"))
	f.Add(-1, []byte("\x04a\x05b"))
	f.Add(3, []byte("\x00a\x02b\x04a\x08a\x0ca\x03c"))
	f.Add(10001, []byte("\x04a\x04b\x04c\x04d\x04e\x04f\x04g\x07a\x07c\x07e\x06b\x07g"))
	f.Fuzz(func(t *testing.T, room int, acts []byte) {
		b := newBoth(room)
		for i := 0; i+1 < len(acts); i += 2 {
			// The call's higher bits lengthen the key, so that there are more of them than bytes.
			key := strings.Repeat(string(acts[i+1:i+2]), int(acts[i]>>2))
			b.act(t, int(acts[i]), key, i)
			b.look(t, key)
		}
		b.lookAll(t)
	})
}

package book

import (
	"slices"
	"strconv"
	"strings"
	"testing"

	"tapster/api"
	"tapster/limiter"
)

// plain is a list that does what a Book does. It tells how often which way was gone.
type plain struct {
	list    []laid
	version int
	gone    map[string]int
}

func (l *plain) find(name string) int {
	return slices.IndexFunc(l.list, func(x laid) bool { return x.name == name })
}

func (l *plain) lay(name string, p api.Policy) (int, api.Errno) {
	i := l.find(name)
	switch {
	case len(name) < 1 || len(name) > 40 || strings.Trim(name, allowed) != "":
		l.gone["wrong name"]++
		return 0, api.ErrArg
	case limiter.Check(p) != api.OK:
		l.gone["wrong policy"]++
		return 0, api.ErrArg
	case i < 0 && len(l.list) == 100:
		l.gone["full"]++
		return 0, api.ErrFull
	case i < 0:
		l.gone["new"]++
		l.version++
		l.list = append(l.list, laid{name, p, l.version})
		return l.version, api.OK
	case l.list[i].policy == p:
		l.gone["the same"]++
		return l.list[i].version, api.OK
	default:
		l.gone["another one"]++
		l.version++
		l.list[i] = laid{name, p, l.version}
		return l.version, api.OK
	}
}

func (l *plain) drop(name string) bool {
	i := l.find(name)
	if i < 0 {
		l.gone["not there"]++
		return false
	}
	l.gone["dropped"]++
	l.list = slices.Delete(l.list, i, i+1)
	return true
}

// both are a Book and the list that does the same.
type both struct {
	book  *Book
	plain *plain
}

func newBoth(gone map[string]int) both {
	return both{New(), &plain{gone: gone}}
}

func (b both) copied() both {
	return both{b.book.Copy(), &plain{slices.Clone(b.plain.list), b.plain.version, b.plain.gone}}
}

func (b both) lay(t *testing.T, name string, p api.Policy) {
	t.Helper()
	want, errno := b.plain.lay(name, p)
	checkLay(t, "both", b.book, name, p, want, errno)
}

func (b both) drop(t *testing.T, name string) {
	t.Helper()
	checkDrop(t, "both", b.book, name, b.plain.drop(name))
}

// look holds what both tell of a name, and the Version.
func (b both) look(t *testing.T, name string) {
	t.Helper()
	if i := b.plain.find(name); i < 0 {
		checkNone(t, "both", b.book, name)
	} else if p, v, is := b.book.Get(name); p != b.plain.list[i].policy || v != b.plain.list[i].version || !is {
		t.Fatalf("Get(%q): %v, %d, %t, not %v", name, p, v, is, b.plain.list[i])
	}
	if got := b.book.Version(); got != b.plain.version {
		t.Fatalf("Version: %d, not %d", got, b.plain.version)
	}
}

func (b both) checkAll(t *testing.T) {
	t.Helper()
	checkAll(t, "both", b.book, b.plain.version, b.plain.list...)
}

// scattered draws numbers from 0 to below count, the same in every run.
func scattered() func(count int) int {
	x := uint64(88172645463325252)
	return func(count int) int {
		x ^= x << 13
		x ^= x >> 7
		x ^= x << 17
		return int((x >> 11) % uint64(count))
	}
}

func namesFor(count int) []string {
	l := make([]string, count)
	for i := range l {
		l[i] = "n" + strconv.Itoa(i)
	}
	return l
}

// TestAnyInput walks Books and the plain list through the same calls, of few names and of more than there is room for: all of them end without a panic and tell the same.
func TestAnyInput(t *testing.T) {
	gone := map[string]int{}
	draw := scattered()
	rights, wrongs := append(small(), edges()...), wrong()
	for _, names := range [][]string{{"a"}, namesFor(3), namesFor(20), namesFor(130), namesFor(400), rightNames(), wrongNames(), append(rightNames(), wrongNames()...)} {
		for _, drops := range []int{0, 1, 5} {
			b := newBoth(gone)
			for step := range 3000 {
				name := names[draw(len(names))]
				switch p := rights[draw(len(rights))]; {
				case draw(12) < drops:
					b.drop(t, name)
				case draw(12) == 0:
					b.lay(t, name, wrongs[draw(len(wrongs))])
				default:
					p.Open = draw(2) == 0
					b.lay(t, name, p)
				}
				b.look(t, name)
				b.look(t, names[draw(len(names))])
				if step%50 == 0 {
					b.checkAll(t)
				}
				if draw(60) == 0 {
					origin := b
					b = b.copied()
					origin.lay(t, name, rights[draw(len(rights))])
					origin.drop(t, names[draw(len(names))])
					origin.checkAll(t)
				}
			}
			b.checkAll(t)
		}
	}
	for _, way := range []string{"wrong name", "wrong policy", "full", "new", "the same", "another one", "not there", "dropped"} {
		if gone[way] < 500 {
			t.Fatal("too little happened to tell:", gone)
		}
	}
}

// TestAllSmall tries all calls of two names and two policies, up to five behind one another.
func TestAllSmall(t *testing.T) {
	p, q := small()[0], small()[1]
	var try func(b both, depth int)
	try = func(b both, depth int) {
		b.checkAll(t)
		if depth == 0 {
			return
		}
		for _, name := range []string{"a", "b"} {
			for _, do := range []func(b both){
				func(b both) { b.lay(t, name, p) },
				func(b both) { b.lay(t, name, q) },
				func(b both) { b.drop(t, name) },
			} {
				next := b.copied()
				do(next)
				b.checkAll(t)
				try(next, depth-1)
			}
		}
	}
	try(newBoth(map[string]int{}), 5)
}

// TestVersionOnce is what the chapter says that holds: a version is told once, of one policy. It is told again only as long as that policy stands by that name.
func TestVersionOnce(t *testing.T) {
	draw := scattered()
	policies := append(small(), edges()...)
	newer, again := 0, 0
	for _, count := range []int{1, 2, 5, 40, 150} {
		b := New()
		names := namesFor(count)
		// Of which name and policy each version was told, and of what it is so still.
		first, now := map[int]laid{}, map[string]int{}
		for range 5000 {
			name, p := names[draw(count)], policies[draw(3)]
			if draw(5) == 0 {
				checkDrop(t, "once", b, name, now[name] > 0)
				delete(now, name)
				continue
			}
			before := b.Version()
			v, errno := b.Lay(name, p)
			x, told := first[v]
			switch {
			case errno == api.ErrFull && v == 0 && now[name] == 0 && len(now) == 100 && b.Version() == before:
			case errno != api.OK:
				t.Fatalf("Lay(%q, %v): %d, %d", name, p, v, errno)
			case !told && v == before+1 && b.Version() == v:
				newer++
				first[v], now[name] = laid{name, p, v}, v
			case told && x == (laid{name, p, v}) && now[name] == v && b.Version() == before:
				again++
			default:
				t.Fatalf("Lay(%q, %v): %d, which was %v; the Version %d, then %d", name, p, v, x, before, b.Version())
			}
			for name, v := range now {
				if got, w, is := b.Get(name); first[v] != (laid{name, got, w}) || !is {
					t.Fatalf("Get(%q): %v, %d, %t, not %v", name, got, w, is, first[v])
				}
			}
		}
	}
	if newer < 5000 || again < 2000 {
		t.Fatal("too little happened to tell:", newer, again)
	}
}

// FuzzNamed looks for names that the tests miss: go test -fuzz=FuzzNamed ./book.
func FuzzNamed(f *testing.F) {
	for _, name := range append(rightNames(), wrongNames()...) {
		f.Add(name)
	}
	f.Fuzz(func(t *testing.T, name string) {
		want := len(name) >= 1 && len(name) <= 40 && strings.Trim(name, allowed) == ""
		if got := Named(name); got != want {
			t.Fatalf("Named(%q): %t", name, got)
		}
		b := newBoth(map[string]int{})
		for _, p := range append(small(), api.Policy{}) {
			b.lay(t, name, p)
			b.look(t, name)
		}
		b.checkAll(t)
	})
}

// FuzzBook looks for calls that the walks miss: go test -fuzz=FuzzBook ./book.
func FuzzBook(f *testing.F) {
	f.Add([]byte("\x00a\x00a\x01a\x02a\x00a"))
	f.Add([]byte("\x00a\x10b\x20c\x08a\x01b\x02\xff\x03 \x07a"))
	f.Add([]byte("\x10\x00\x10\x01\x10\x02\x10\x03"))
	f.Fuzz(func(t *testing.T, calls []byte) {
		b := newBoth(map[string]int{})
		policies := append(small(), edges()[0], edges()[7], api.Policy{})
		for l := range slices.Chunk(calls, 2) {
			if len(l) < 2 {
				break
			}
			// The call's higher bits make its name one of many, or a wrong one.
			name := strings.Repeat(string(l[1:]), int(l[0]>>5))
			if l[0]&16 > 0 {
				name = "n" + strconv.Itoa(int(l[1]))
			}
			if i := int(l[0] & 7); i < len(policies) {
				b.lay(t, name, policies[i])
			} else {
				b.drop(t, name)
			}
			b.look(t, name)
			if l[0]&8 > 0 {
				origin := b
				b = b.copied()
				origin.drop(t, name)
			}
		}
		b.checkAll(t)
	})
}

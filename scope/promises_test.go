package scope

import (
	"slices"
	"strconv"
	"strings"
	"testing"

	"tapster/api"
	"tapster/book"
)

// laid is a policy, with its name and its version.
type laid struct {
	name    string
	policy  api.Policy
	version int
}

// plain is a list of policies, of which it tells what Expand does. It counts how often which way was gone.
type plain struct {
	list []laid
	gone map[string]int
}

func plainPath(l []string) api.Errno {
	tooLong := func(part string) bool { return len(part) > 100 }
	switch {
	case len(l) > 8 || slices.ContainsFunc(l, tooLong):
		return api.ErrLong
	case slices.Contains(l, ""):
		return api.ErrArg
	default:
		return api.OK
	}
}

func plainKey(name string, version int, path []string, deep int) string {
	key := ""
	for i, part := range append([]string{name, strconv.Itoa(version)}, path...) {
		if i < 2 || i-2 < deep {
			key += strings.NewReplacer(`\`, `\\`, `:`, `\:`).Replace(part) + ":"
		}
	}
	return key
}

// wished is what was wished of the first parts of a path, by a policy.
type wished struct {
	name string
	deep int
	cost uint64
	told api.Limit
}

func (l plain) expand(path []string, wishes []api.Wish) ([]api.Limit, api.Errno) {
	if errno := plainPath(path); errno != api.OK {
		return nil, l.error("path", errno)
	}
	if len(wishes) > 20 {
		return nil, l.error("many", api.ErrLong)
	}
	var all []wished
	for _, w := range wishes {
		i := slices.IndexFunc(l.list, func(x laid) bool { return x.name == w.Name })
		switch {
		case i < 0:
			return nil, l.error("none", api.ErrNone)
		case w.Deep < 0 || w.Deep > len(path):
			return nil, l.error("deep", api.ErrArg)
		case w.Cost <= 0:
			return nil, l.error("cost", api.ErrArg)
		}
		j := slices.IndexFunc(all, func(x wished) bool { return x.name == w.Name && x.deep == w.Deep })
		if j < 0 {
			j = len(all)
			told := api.Limit{Key: plainKey(w.Name, l.list[i].version, path, w.Deep), Policy: l.list[i].policy}
			all = append(all, wished{w.Name, w.Deep, 0, told})
		} else {
			l.gone["together"]++
		}
		all[j].cost += uint64(w.Cost)
		if all[j].cost > 1<<20 {
			return nil, l.error("over", api.ErrOver)
		}
	}
	l.gone["told"]++
	return laidOut(all), api.OK
}

// error counts why one is told.
func (l plain) error(way string, errno api.Errno) api.Errno {
	l.gone[way]++
	return errno
}

// laidOut puts each limit ahead of the first one whose key is greater.
func laidOut(all []wished) []api.Limit {
	var told []api.Limit
	for _, x := range all {
		x.told.Cost = int(x.cost)
		i := 0
		for i < len(told) && slices.Compare([]byte(told[i].Key), []byte(x.told.Key)) < 0 {
			i++
		}
		told = slices.Insert(told, i, x.told)
	}
	return told
}

// both are a Book and the list of what was laid in it.
type both struct {
	book  *book.Book
	plain plain
}

// stocked are Books of all sorts: none, without policies, with few, with many, with some laid anew and some dropped.
func stocked(t testing.TB, gone map[string]int) []both {
	t.Helper()
	l := []both{{nil, plain{nil, gone}}, {book.New(), plain{nil, gone}}}
	for _, names := range [][]string{{"a"}, {"a", "b", "c"}, {"b", "a-", "a", "aa", "a.", "a0", "A", "-", "_"}, {"c", "b", "a", "b", "c", "a", "c"}} {
		b := both{book.New(), plain{nil, gone}}
		for i, name := range names {
			p := small()[(i*i+i)%4]
			p.Limit += i
			lay(t, b.book, name, p, i+1)
			b.plain.list = slices.DeleteFunc(b.plain.list, func(x laid) bool { return x.name == name })
			b.plain.list = append(b.plain.list, laid{name, p, i + 1})
		}
		if len(names) > 6 {
			b.book.Drop(b.plain.list[0].name)
			b.plain.list = b.plain.list[1:]
		}
		l = append(l, b)
	}
	return l
}

// check holds that both tell the same of wishes, and that what the limits cost is what was wished.
func (b both) check(t *testing.T, path []string, wishes ...api.Wish) {
	t.Helper()
	want, errno := b.plain.expand(path, wishes)
	if errno != api.OK {
		checkError(t, "both", errno, b.book, path, wishes...)
		return
	}
	checkLimits(t, "both", b.book, path, wishes, want...)
	sum := 0
	for _, w := range wishes {
		sum += w.Cost
	}
	if got, ok := Cost(want...); got != sum || !ok {
		t.Fatalf("Cost of %v: %d, %t, not %d", want, got, ok, sum)
	}
}

// scattered draws numbers from 0 to below count, the same in every run.
func scattered() func(count int) int {
	x := uint64(88172645463325252)
	return func(count int) int {
		x ^= x << 13
		x ^= x >> 7
		x ^= x << 17
		return int((x >> 11) % uint64(count))
	}
}

// pick draws one of l.
func pick[T any](draw func(count int) int, l ...T) T {
	return l[draw(len(l))]
}

// drawPath draws one that may be, or, where wrong, one that may not.
func drawPath(draw func(count int) int, wrong bool) []string {
	l := make([]string, draw(9))
	for i := range l {
		l[i] = pick(draw, "t", "u", ":", `\`, "u:v", `\:`, "\x00", "\xff", "é", long(100), long(99))
	}
	if wrong {
		l = append(l, pick(draw, "", long(101), long(300), "t"))
		i := draw(len(l))
		l[i], l[len(l)-1] = l[len(l)-1], l[i]
	}
	return l
}

// drawWish draws one that may be on a path of count parts, or, where wrong, one that may not.
func drawWish(draw func(count int) int, names []string, count int, wrong bool) api.Wish {
	w := wish(pick(draw, names...), draw(count+1), pick(draw, 1, 2, 3, 10, 1000, 1<<17, 1<<18))
	if !wrong {
		return w
	}
	switch draw(4) {
	case 0:
		w.Name = pick(draw, "", "x", "a:", "aaa", long(41))
	case 1:
		w.Deep = pick(draw, least, -1, -2, count+1, count+2, 1<<32, most)
	case 2:
		w.Cost = pick(draw, least, -1<<32, -1, 0)
	default:
		w.Cost = pick(draw, 1<<20, 1<<20+1, 1<<32, most-1<<20, most)
	}
	return w
}

// TestAnyInput asks for wishes of all sorts on paths of all sorts, and holds what is told against what the plain list tells: all calls end without a panic.
func TestAnyInput(t *testing.T) {
	gone := map[string]int{}
	draw := scattered()
	for _, b := range stocked(t, gone) {
		names := []string{"a"}
		for _, x := range b.plain.list {
			names = append(names, x.name)
		}
		for range 6000 {
			path := drawPath(draw, draw(20) == 0)
			// Now and then every other wish may not be, so that several of them stand in one call.
			wrong := pick(draw, 2, 20, 200, 200, 200)
			var l []api.Wish
			for range pick(draw, 1, 2, 3, 5, 20, 20, 21, 25) {
				l = append(l, drawWish(draw, names, len(path), draw(wrong) == 0))
			}
			b.check(t, path, l...)
			checkPath(t, plainPath(path), path...)
		}
	}
	for _, way := range []string{"path", "many", "none", "deep", "cost", "over", "together", "told"} {
		if gone[way] < 500 {
			t.Fatal("too little happened to tell:", gone)
		}
	}
}

// TestAnyKey holds keys of names, versions and parts of all sorts against a plain reading.
func TestAnyKey(t *testing.T) {
	draw := scattered()
	texts := []string{"", "a", ":", `\`, `\\`, "::", "a:b", `a\:b`, "\x00", "\xff", "é", "1", "-1", long(100), long(1000)}
	for range 20000 {
		path := make([]string, draw(12))
		for i := range path {
			path[i] = pick(draw, texts...)
		}
		name, version, deep := pick(draw, texts...), pick(draw, least, -10, -1, 0, 1, 9, 10, 99, most), pick(draw, least, -1, 0, 1, 2, 3, 8, 9, 12, most)
		checkKey(t, plainKey(name, version, path, deep), name, version, path, deep)
	}
}

// TestAllSmall tries all paths of up to two parts with all lists of up to three wishes, of few names, Deeps and Costs.
func TestAllSmall(t *testing.T) {
	gone := map[string]int{}
	b := stocked(t, gone)[3]
	var all []api.Wish
	for _, name := range []string{"a", "b", "x"} {
		for _, deep := range []int{-1, 0, 1, 2} {
			for _, cost := range []int{0, 1, 1 << 19, 1 << 20} {
				all = append(all, wish(name, deep, cost))
			}
		}
	}
	for _, path := range [][]string{nil, {"t"}, {"t", "t"}, {""}} {
		var try func(l []api.Wish)
		try = func(l []api.Wish) {
			b.check(t, path, l...)
			for _, w := range all {
				if len(l) < 3 {
					try(append(slices.Clone(l), w))
				}
			}
		}
		try(nil)
	}
	if gone["told"] < 4000 || gone["together"] < 4000 || gone["over"] < 4000 {
		t.Fatal("too little happened to tell:", gone)
	}
}

// TestEachOnce is what the chapter says that holds: each key is asked for once, for all that is wished of it, in whatever order that was.
func TestEachOnce(t *testing.T) {
	draw := scattered()
	b := shelved(t)
	names := b.Names()
	for range 5000 {
		path := drawPath(draw, false)
		var l []api.Wish
		costs := map[string]int{}
		for range 1 + draw(20) {
			w := wish(pick(draw, names...), draw(len(path)+1), 1+draw(1000))
			_, version, _ := b.Get(w.Name)
			costs[Key(w.Name, version, path, w.Deep)] += w.Cost
			l = append(l, w)
		}
		got, errno := Expand(b, path, l...)
		if errno != api.OK || len(got) != len(costs) {
			t.Fatalf("%v: %v, %d; there are %d keys", l, got, errno, len(costs))
		}
		for i, x := range got {
			if x.Cost != costs[x.Key] || i > 0 && got[i-1].Key >= x.Key {
				t.Fatalf("%v: %v; %d is wished of %q", l, got, costs[x.Key], x.Key)
			}
		}
		for range 3 {
			for i := range l {
				j := draw(i + 1)
				l[i], l[j] = l[j], l[i]
			}
			if again, errno := Expand(b, path, l...); errno != api.OK || !Same(got, again) {
				t.Fatalf("%v: %v, %d, not %v", l, again, errno, got)
			}
		}
	}
}

// FuzzPath looks for paths that the tests miss: go test -fuzz=FuzzPath ./scope.
func FuzzPath(f *testing.F) {
	for _, text := range []string{"", "a", "a,b", "a,,b", long(101), long(100) + "," + long(101), "a,b,c,d,e,f,g,h,i"} {
		f.Add(text, "n", 1, 2)
	}
	f.Fuzz(func(t *testing.T, text, name string, version, deep int) {
		path := strings.Split(text, ",")
		checkPath(t, plainPath(path), path...)
		checkKey(t, plainKey(name, version, path, deep), name, version, path, deep)
	})
}

// FuzzExpand looks for wishes that the walks miss: go test -fuzz=FuzzExpand ./scope.
func FuzzExpand(f *testing.F) {
	f.Add("t,u", []byte("\x00\x01\x02\x01\x01\x02\x00\x01\x03"))
	f.Add("", []byte("\x00\x00\x14\x00\x00\x01"))
	f.Add("t,,u", []byte("\x00\x00\x00"))
	f.Fuzz(func(t *testing.T, text string, calls []byte) {
		b := stocked(t, map[string]int{})[4]
		var path []string
		if text != "" {
			path = strings.Split(text, ",")
		}
		var l []api.Wish
		for x := range slices.Chunk(calls, 3) {
			if len(x) < 3 {
				break
			}
			name := "x"
			if i := int(x[0]); i < len(b.plain.list) {
				name = b.plain.list[i].name
			}
			// Costs are powers of two, and such as are one less or more.
			l = append(l, wish(name, int(int8(x[1])), 1<<(x[2]&63)+int(x[2]>>6)-1))
		}
		b.check(t, path, l...)
	})
}

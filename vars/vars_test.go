package vars

import (
	"slices"
	"strconv"
	"testing"

	"tapster/api"
)

const (
	most  = 1<<63 - 1
	least = -1 << 63
	late  = 1 << 53
)

// given is a key with what it was given: a number, and an END, or -1.
type given struct {
	key string
	n   int
	end int
}

func clipped(now int) int {
	return min(max(now, 0), late)
}

func (x given) there(now int) bool {
	return x.end == -1 || x.end > clipped(now)
}

// filled are Vars for room, with those of l, Set at 0, in their order.
func filled(t *testing.T, room int, l ...given) *Vars {
	t.Helper()
	v := New(room)
	for _, x := range l {
		checkSet(t, "filled", v, x.key, x.n, 0, api.OK)
	}
	for _, x := range l {
		if x.end != -1 && !v.Expire(x.key, x.end, 0) {
			t.Fatalf("filled: Expire(%q, %d)", x.key, x.end)
		}
	}
	return v
}

// numbered are count keys of different numbers, without an END.
func numbered(count int) []given {
	l := make([]given, count)
	for i := range l {
		l[i] = given{"k" + strconv.Itoa(i), i * 7, -1}
	}
	return l
}

func without(l []given, key string) []given {
	return slices.DeleteFunc(slices.Clone(l), func(x given) bool { return x.key == key })
}

func checkSet(t *testing.T, when string, v *Vars, key string, n, now int, want api.Errno) {
	t.Helper()
	if got := v.Set(key, n, now); got != want {
		t.Fatalf("%s: Set(%q, %d, %d): %d, not %d", when, key, n, now, got, want)
	}
}

func checkAdd(t *testing.T, when string, v *Vars, key string, n, now int, want int, errno api.Errno) {
	t.Helper()
	if got, e := v.Add(key, n, now); got != want || e != errno {
		t.Fatalf("%s: Add(%q, %d, %d): %d, %d, not %d, %d", when, key, n, now, got, e, want, errno)
	}
}

func checkExpire(t *testing.T, when string, v *Vars, key string, last, now int, want bool) {
	t.Helper()
	if got := v.Expire(key, last, now); got != want {
		t.Fatalf("%s: Expire(%q, %d, %d): %t", when, key, last, now, got)
	}
}

func checkDelete(t *testing.T, when string, v *Vars, key string, now int, want bool) {
	t.Helper()
	if got := v.Delete(key, now); got != want {
		t.Fatalf("%s: Delete(%q, %d): %t", when, key, now, got)
	}
}

// checkOne holds what is told of one key, if there is x of it, or of one that was given nothing.
func checkOne(t *testing.T, when string, v *Vars, key string, now int, x given, is bool) {
	t.Helper()
	is = is && x.there(now)
	n, left := 0, 0
	if is {
		n, left = x.n, -1
		if x.end != -1 {
			left = x.end - clipped(now)
		}
	}
	if got, ok := v.Get(key, now); got != n || ok != is {
		t.Fatalf("%s: Get(%q, %d): %d, %t, not %d, %t", when, key, now, got, ok, n, is)
	}
	if got, ok := v.Left(key, now); got != left || ok != is {
		t.Fatalf("%s: Left(%q, %d): %d, %t, not %d, %t", when, key, now, got, ok, left, is)
	}
}

// checkAt holds all that is told at now, if what is kept is l.
func checkAt(t *testing.T, when string, v *Vars, now int, l []given) {
	t.Helper()
	var keys []string
	for _, x := range l {
		checkOne(t, when, v, x.key, now, x, true)
		if x.there(now) {
			keys = append(keys, x.key)
		}
	}
	slices.Sort(keys)
	if got := v.Keys(now); !slices.Equal(got, keys) {
		t.Fatalf("%s: Keys(%d): %q, not %q", when, now, got, keys)
	}
	if got := v.Len(now); got != len(keys) {
		t.Fatalf("%s: Len(%d): %d, not %d", when, now, got, len(keys))
	}
}

// checkAll holds all that is told, at all times that may tell, if what is kept is l; and that it is kept so inside.
func checkAll(t *testing.T, when string, v *Vars, l ...given) {
	t.Helper()
	times := []int{least, -1, 0, 1, late - 1, late, late + 1, most}
	for _, x := range l {
		if x.end != -1 {
			times = append(times, x.end-1, x.end, x.end+1)
		}
	}
	slices.Sort(times)
	for _, now := range slices.Compact(times) {
		checkAt(t, when, v, now, l)
	}
	checkInside(t, when, v, l...)
}

func checkInside(t *testing.T, when string, v *Vars, l ...given) {
	t.Helper()
	if v.room < 0 || v.room > 10000 || len(v.numbers) > v.room || len(v.numbers) != len(l) {
		t.Fatalf("%s: %d kept, not %d, in a room for %d", when, len(v.numbers), len(l), v.room)
	}
	for _, x := range l {
		y := v.numbers[x.key]
		if y == nil || y.n != x.n || y.end != x.end && !(x.end == -1 && y.end == endless) {
			t.Fatalf("%s: %q is kept as %v, not %v", when, x.key, y, x)
		}
	}
}

// TestExamples holds the chapter's example.
func TestExamples(t *testing.T) {
	v := New(3)
	checkSet(t, "example 1", v, "a", 5, 0, api.OK)
	checkExpire(t, "example 1", v, "a", 10, 0, true)
	if n, is := v.Get("a", 9); n != 5 || !is {
		t.Error("at 9:", n, is)
	}
	if n, is := v.Get("a", 10); n != 0 || is {
		t.Error("at 10:", n, is)
	}
}

// TestRoom fills Vars of each room with as many keys as it has.
func TestRoom(t *testing.T) {
	for _, x := range []struct{ room, want int }{
		{least, 0}, {-10000, 0}, {-1, 0}, {0, 0}, {1, 1}, {2, 2}, {9999, 9999}, {10000, 10000}, {10001, 10000}, {20000, 10000}, {most, 10000},
	} {
		when := "room " + strconv.Itoa(x.room)
		v := New(x.room)
		checkAll(t, when, v)
		l := numbered(x.want)
		for i, y := range l {
			if i%2 == 0 {
				checkSet(t, when, v, y.key, y.n, i, api.OK)
			} else {
				checkAdd(t, when, v, y.key, y.n, i, y.n, api.OK)
			}
		}
		for _, now := range []int{least, 0, 10000, most} {
			checkSet(t, when, v, "more", 1, now, api.ErrFull)
			checkAdd(t, when, v, "more", 1, now, 0, api.ErrFull)
		}
		for i := range l {
			l[i].n++
			checkAdd(t, when, v, l[i].key, 1, 3, l[i].n, api.OK)
		}
		checkAt(t, when, v, 5, l)
		checkInside(t, when, v, l...)
		if x.want > 0 {
			checkDelete(t, when, v, l[0].key, 6, true)
			checkSet(t, when, v, "more", 8, 6, api.OK)
			checkSet(t, when, v, l[0].key, 8, 6, api.ErrFull)
			l[0] = given{"more", 8, -1}
			checkInside(t, when, v, l...)
		}
	}
}

// TestNoBytes is of the key that has none.
func TestNoBytes(t *testing.T) {
	v := New(2)
	checkExpire(t, "not there", v, "", 5, 0, false)
	checkDelete(t, "not there", v, "", 0, false)
	checkSet(t, "set", v, "", 5, 0, api.OK)
	checkAdd(t, "add", v, "", -2, 0, 3, api.OK)
	checkSet(t, "another", v, "\x00", 7, 0, api.OK)
	checkExpire(t, "expire", v, "", 9, 0, true)
	checkAll(t, "expire", v, given{"", 3, 9}, given{"\x00", 7, -1})
	if got := v.Keys(8); !slices.Equal(got, []string{"", "\x00"}) {
		t.Errorf("Keys: %q", got)
	}
	checkDelete(t, "delete", v, "", 8, true)
	checkAll(t, "delete", v, given{"\x00", 7, -1})
	checkAdd(t, "add anew", v, "", 4, 8, 4, api.OK)
	checkAll(t, "add anew", v, given{"", 4, -1}, given{"\x00", 7, -1})
}

// TestSet sets a key that is there and one that is not, one that has an END and one that has none, with room and without.
func TestSet(t *testing.T) {
	l := []given{{"a", 1, -1}, {"b", 2, 20}, {"c", 3, 10}}
	for _, n := range []int{least, -1, 0, 1, 5, most} {
		for _, room := range []int{3, 4} {
			for _, key := range []string{"a", "b"} {
				v := filled(t, room, l...)
				for range 2 {
					checkSet(t, "there", v, key, n, 10, api.OK)
					checkAll(t, "there", v, append(without(l, key), given{key, n, -1})...)
				}
			}
			for _, key := range []string{"c", "x", ""} {
				v := filled(t, room, l...)
				checkSet(t, "not there", v, key, n, 10, api.OK)
				checkAll(t, "not there", v, l[0], l[1], given{key, n, -1})
				checkSet(t, "there then", v, key, 77, 9, api.OK)
				checkAll(t, "there then", v, l[0], l[1], given{key, 77, -1})
			}
		}
		for _, key := range []string{"d", "x", ""} {
			v := filled(t, 3, l...)
			checkSet(t, "no room", v, key, n, 9, api.ErrFull)
			checkAll(t, "no room", v, l...)
		}
		v := filled(t, 4, l...)
		checkSet(t, "room", v, "x", n, 9, api.OK)
		checkAll(t, "room", v, append(l, given{"x", n, -1})...)
	}
}

// TestAdd adds to a key that is there and to one that is not, to one that has an END and to one that has none, with room and without.
func TestAdd(t *testing.T) {
	l := []given{{"a", 1, -1}, {"b", 2, 20}, {"c", 3, 10}}
	for _, n := range []int{least, -5, -1, 0, 1, 5, most - 2} {
		for _, room := range []int{3, 4} {
			for _, x := range l[:2] {
				v := filled(t, room, l...)
				y := x
				y.n += n
				checkAdd(t, "there", v, x.key, n, 10, y.n, api.OK)
				checkAll(t, "there", v, append(without(l, x.key), y)...)
				y.n--
				checkAdd(t, "there, again", v, x.key, -1, 0, y.n, api.OK)
				checkAll(t, "there, again", v, append(without(l, x.key), y)...)
			}
			for _, key := range []string{"c", "x", ""} {
				v := filled(t, room, l...)
				checkAdd(t, "not there", v, key, n, 10, n, api.OK)
				checkAll(t, "not there", v, l[0], l[1], given{key, n, -1})
				checkAdd(t, "there then", v, key, 2, 9, n+2, api.OK)
				checkAll(t, "there then", v, l[0], l[1], given{key, n + 2, -1})
			}
		}
		for _, key := range []string{"d", "x", ""} {
			v := filled(t, 3, l...)
			checkAdd(t, "no room", v, key, n, 9, 0, api.ErrFull)
			checkAll(t, "no room", v, l...)
		}
		v := filled(t, 4, l...)
		checkAdd(t, "room", v, "x", n, 9, n, api.OK)
		checkAll(t, "room", v, append(l, given{"x", n, -1})...)
	}
}

// TestTooGreat adds what is just no number any more, and what just is one.
func TestTooGreat(t *testing.T) {
	for _, x := range []struct {
		n, more, want int
		errno         api.Errno
	}{
		{most, 1, 0, api.ErrOver}, {1, most, 0, api.ErrOver}, {most, most, 0, api.ErrOver}, {most - 4, 5, 0, api.ErrOver}, {1 << 62, 1 << 62, 0, api.ErrOver},
		{least, -1, 0, api.ErrOver}, {-1, least, 0, api.ErrOver}, {least, least, 0, api.ErrOver}, {least + 4, -5, 0, api.ErrOver}, {-1<<62 - 1, -1 << 62, 0, api.ErrOver},
		{most, 0, most, api.OK}, {0, most, most, api.OK}, {most - 5, 5, most, api.OK}, {most, least, -1, api.OK}, {1<<62 - 1, 1 << 62, most, api.OK},
		{least, 0, least, api.OK}, {0, least, least, api.OK}, {least + 5, -5, least, api.OK}, {least, most, -1, api.OK}, {-1 << 62, -1 << 62, least, api.OK},
		{most, -1, most - 1, api.OK}, {least, 1, least + 1, api.OK}, {-1, 1, 0, api.OK}, {5, -9, -4, api.OK},
	} {
		for _, end := range []int{-1, 20} {
			for _, room := range []int{2, 3} {
				l := []given{{"a", x.n, end}, {"gone", x.n, 10}}
				v := filled(t, room, l...)
				checkAdd(t, "there", v, "a", x.more, 15, x.want, x.errno)
				if x.errno == api.OK {
					l[0].n = x.want
				}
				checkAll(t, "there", v, l...)
				// Of what is not there the number is 0, whatever it was.
				checkAdd(t, "not there", v, "gone", x.more, 15, x.more, api.OK)
				checkAll(t, "not there", v, l[0], given{"gone", x.more, -1})
				only := filled(t, 1, given{"a", x.n, end})
				checkAdd(t, "not there, no room", only, "x", x.more, 15, 0, api.ErrFull)
				checkAll(t, "not there, no room", only, given{"a", x.n, end})
			}
		}
	}
}

// TestEnd looks at a key about its END, which is as late as it may be, or as early.
func TestEnd(t *testing.T) {
	for _, end := range []int{1, 2, 10, 1 << 40, late - 1, late} {
		x := given{"a", 5, end}
		v := filled(t, 2, x, given{"b", 6, -1})
		checkAll(t, "about its END", v, x, given{"b", 6, -1})
		for _, now := range []int{end - 1, end, end + 1} {
			is := now < end
			n, left := 0, 0
			if is {
				n, left = 5, 1
			}
			if got, ok := v.Get("a", now); got != n || ok != is {
				t.Fatalf("END %d: Get at %d: %d, %t", end, now, got, ok)
			}
			if got, ok := v.Left("a", now); got != left || ok != is {
				t.Fatalf("END %d: Left at %d: %d, %t", end, now, got, ok)
			}
			if got := v.Len(now); got != 1+left {
				t.Fatalf("END %d: Len at %d: %d", end, now, got)
			}
			if got := v.Keys(now); !slices.Equal(got, []string{"a", "b"}[1-left:]) {
				t.Fatalf("END %d: Keys at %d: %q", end, now, got)
			}
			checkExpire(t, "about its END", v.Copy(), "a", 3, now, is)
			checkDelete(t, "about its END", v.Copy(), "a", now, is)
			checkAdd(t, "about its END", v.Copy(), "a", 1, now, n+1, api.OK)
			want := api.OK
			if is {
				want = api.ErrFull
			}
			checkSet(t, "about its END", v.Copy(), "c", 1, now, want)
			w := v.Copy()
			checkAdd(t, "about its END", w, "a", 0, now, n, api.OK)
			if is {
				checkAll(t, "it stays", w, x, given{"b", 6, -1})
			} else {
				checkAll(t, "a new one", w, given{"a", 0, -1}, given{"b", 6, -1})
			}
		}
	}
}

// TestExpire gives ENDs at all times that may tell, by all numbers that may: of what has none, of what has one, and of what is not there.
func TestExpire(t *testing.T) {
	lasts := []int{least, least + 1, -late, -1, 0, 1, 2, 9, 1 << 40, late - 101, late - 100, late - 99, late - 1, late, late + 1, most - late, most - 1, most}
	times := []int{least, -late, -1, 0, 1, 100, late - 2, late - 1, late, late + 1, most}
	for _, now := range times {
		for _, last := range lasts {
			want := clipped(now)
			if last > 0 {
				want = min(late, want+min(last, late))
			}
			for _, before := range []int{-1, 1, 101, 1 << 41, late - 1, late} {
				l := []given{{"a", 5, before}, {"b", 6, -1}}
				v := filled(t, 2, l...)
				is := l[0].there(now)
				if is {
					l[0].end = want
				}
				checkExpire(t, "there or not", v, "a", last, now, is)
				checkAll(t, "there or not", v, l...)
				checkExpire(t, "never there", v, "c", last, now, false)
				checkExpire(t, "never there", v, "", last, now, false)
				checkAll(t, "never there", v, l...)
				checkExpire(t, "none", New(0), "a", last, now, false)
			}
		}
	}
}

// TestExpireAgain takes the last END alone, earlier or later.
func TestExpireAgain(t *testing.T) {
	v := filled(t, 1, given{"a", 5, -1})
	for _, x := range []struct{ last, now, want int }{
		{10, 0, 10}, {10, 5, 15}, {1, 5, 6}, {100, 5, 105}, {0, 3, 3}, {4, 2, 6}, {7, -1, 7}, {most, 6, late}, {1, late - 1, late}, {5, most - 1, -2}, {2, 0, 2}, {-3, 1, 1}, {least, 0, 0}, {5, 0, -2},
	} {
		before := v.numbers["a"].end
		checkExpire(t, "again", v, "a", x.last, x.now, x.want != -2)
		if x.want == -2 {
			x.want = before
		}
		checkAll(t, "again", v, given{"a", 5, x.want})
	}
	checkSet(t, "never there any more", v, "b", 1, 0, api.OK)
	checkAll(t, "never there any more", v, given{"b", 1, -1})
}

// TestExpireAtOnce: by 0 and less it is gone at once, whoever asks.
func TestExpireAtOnce(t *testing.T) {
	for _, last := range []int{0, -1, -5, least} {
		for _, now := range []int{least, 0, 7, late, most} {
			v := filled(t, 1, given{"a", 5, -1})
			checkExpire(t, "at once", v, "a", last, now, true)
			checkOne(t, "at once", v, "a", now, given{}, false)
			checkExpire(t, "at once", v, "a", 9, now, false)
			checkDelete(t, "at once", v, "a", now, false)
			if v.Len(now) != 0 || len(v.Keys(now)) != 0 {
				t.Fatal(v.Len(now), v.Keys(now))
			}
			checkAdd(t, "at once", v, "b", 3, now, 3, api.OK)
			checkAll(t, "at once", v, given{"b", 3, -1})
		}
	}
}

// TestDelete takes away what is there, for all times, and nothing else.
func TestDelete(t *testing.T) {
	l := []given{{"a", 5, -1}, {"b", 6, 10}, {"c", 0, 20}}
	for _, now := range []int{least, -1, 0, 9, 10, 11, 19, 20, late, most} {
		for _, x := range append(l, given{"x", 0, 0}, given{"", 0, 0}) {
			v := filled(t, 3, l...)
			left := l
			if x.there(now) {
				left = without(l, x.key)
			}
			checkDelete(t, "once", v, x.key, now, x.there(now))
			checkAll(t, "once", v, left...)
			checkDelete(t, "twice", v, x.key, now, false)
			checkAll(t, "twice", v, left...)
			if x.there(now) {
				checkAdd(t, "anew", v, x.key, 4, now, 4, api.OK)
				left = slices.DeleteFunc(slices.Clone(left), func(y given) bool { return !y.there(now) })
				checkAll(t, "anew", v, append(left, given{x.key, 4, -1})...)
			}
		}
	}
}

// TestLeft tells how long: of what has an END, of what has none, and of what is not there.
func TestLeft(t *testing.T) {
	v := filled(t, 4, given{"a", 5, 10}, given{"b", 6, -1}, given{"c", 7, late}, given{"d", -1, -1})
	checkDelete(t, "left", v, "d", 0, true)
	for _, x := range []struct {
		key       string
		now, left int
		is        bool
	}{
		{"a", least, 10, true}, {"a", -1, 10, true}, {"a", 0, 10, true}, {"a", 4, 6, true}, {"a", 9, 1, true}, {"a", 10, 0, false}, {"a", 11, 0, false}, {"a", most, 0, false},
		{"b", least, -1, true}, {"b", 0, -1, true}, {"b", 10, -1, true}, {"b", late, -1, true}, {"b", most, -1, true},
		{"c", -7, late, true}, {"c", 0, late, true}, {"c", late - 1, 1, true}, {"c", late, 0, false}, {"c", late + 1, 0, false},
		{"d", 0, 0, false}, {"", 0, 0, false}, {"A", 0, 0, false},
	} {
		if got, is := v.Left(x.key, x.now); got != x.left || is != x.is {
			t.Errorf("Left(%q, %d): %d, %t, not %d, %t", x.key, x.now, got, is, x.left, x.is)
		}
	}
}

// TestClockBackward is of clocks that tell a time that is past: what ended is there again then, till it was taken away.
func TestClockBackward(t *testing.T) {
	l := []given{{"a", 5, 10}, {"b", 6, 20}, {"c", 7, -1}}
	// None of these takes away anything else, of what ended.
	for i, x := range []struct {
		do   func(v *Vars)
		left []given
	}{
		{func(v *Vars) { v.Set("c", 8, 30) }, []given{l[0], l[1], {"c", 8, -1}}},
		{func(v *Vars) { v.Add("c", 8, 30) }, []given{l[0], l[1], {"c", 15, -1}}},
		{func(v *Vars) { v.Add("c", most, 30) }, l},
		{func(v *Vars) { v.Delete("c", 30) }, l[:2]},
		{func(v *Vars) { v.Expire("c", 5, 30) }, []given{l[0], l[1], {"c", 7, 35}}},
		{func(v *Vars) { v.Expire("c", -5, 30) }, []given{l[0], l[1], {"c", 7, 30}}},
		{func(v *Vars) { v.Delete("a", 30) }, l},
		{func(v *Vars) { v.Expire("a", 5, 30) }, l},
		{func(v *Vars) { v.Get("a", 30) }, l},
		{func(v *Vars) { v.Left("a", 30) }, l},
		{func(v *Vars) { v.Len(30) }, l},
		{func(v *Vars) { v.Keys(30) }, l},
		{func(v *Vars) { v.Copy() }, l},
		{func(v *Vars) { v.Set("x", 1, 9) }, l},
		{func(v *Vars) { v.Add("x", 1, 9) }, l},
		{func(v *Vars) { v.Set("x", 1, 30) }, []given{l[2], {"x", 1, -1}}},
		{func(v *Vars) { v.Add("x", 1, 30) }, []given{l[2], {"x", 1, -1}}},
		{func(v *Vars) { v.Set("x", 1, 10) }, []given{l[1], l[2], {"x", 1, -1}}},
		{func(v *Vars) { v.Add("x", 1, 19) }, []given{l[1], l[2], {"x", 1, -1}}},
		{func(v *Vars) { v.Set("a", 1, 30) }, []given{l[2], {"a", 1, -1}}},
		{func(v *Vars) { v.Add("a", 1, 30) }, []given{l[2], {"a", 1, -1}}},
		{func(v *Vars) { v.Set("b", 1, 15) }, []given{l[0], l[2], {"b", 1, -1}}},
		{func(v *Vars) { v.Add("a", 1, 15) }, []given{l[1], l[2], {"a", 1, -1}}},
	} {
		v := filled(t, 3, l...)
		x.do(v)
		checkAll(t, "backward, "+strconv.Itoa(i), v, x.left...)
	}
	// What is there again is so for all calls.
	v := filled(t, 3, l...)
	checkSet(t, "no room again", v, "x", 1, 9, api.ErrFull)
	checkAdd(t, "there again", v, "a", 1, 9, 6, api.OK)
	checkExpire(t, "there again", v, "a", 50, 9, true)
	checkAll(t, "there again", v, given{"a", 6, 59}, l[1], l[2])
}

// TestGoneForGood: what a key that was not there took away is not told at any time, nor takes any room.
func TestGoneForGood(t *testing.T) {
	for _, add := range []bool{false, true} {
		v := filled(t, 5, given{"a", 1, 10}, given{"b", 2, 20}, given{"c", 3, 30}, given{"d", 4, -1})
		if add {
			checkAdd(t, "gone", v, "x", 9, 20, 9, api.OK)
		} else {
			checkSet(t, "gone", v, "x", 9, 20, api.OK)
		}
		checkAll(t, "gone", v, given{"c", 3, 30}, given{"d", 4, -1}, given{"x", 9, -1})
		for _, now := range []int{least, 0, 9} {
			checkDelete(t, "gone", v, "a", now, false)
			checkExpire(t, "gone", v, "b", 100, now, false)
		}
		checkAdd(t, "anew", v, "a", 5, 0, 5, api.OK)
		checkAdd(t, "anew", v, "b", 6, 0, 6, api.OK)
		checkSet(t, "full", v, "y", 6, 0, api.ErrFull)
		checkAll(t, "anew", v, given{"a", 5, -1}, given{"b", 6, -1}, given{"c", 3, 30}, given{"d", 4, -1}, given{"x", 9, -1})
	}
}

// TestFullSomeEnded: as many come as have ended, no more.
func TestFullSomeEnded(t *testing.T) {
	l := []given{{"a", 1, 10}, {"b", 2, 10}, {"c", 3, 20}, {"d", 4, -1}}
	v := filled(t, 4, l...)
	checkSet(t, "none has ended", v, "x", 7, 9, api.ErrFull)
	checkAdd(t, "none has ended", v, "x", 7, 9, 0, api.ErrFull)
	checkAll(t, "none has ended", v, l...)
	checkSet(t, "two have", v, "x", 7, 10, api.OK)
	checkAll(t, "two have", v, l[2], l[3], given{"x", 7, -1})
	checkAdd(t, "one has", v, "y", 8, 10, 8, api.OK)
	checkAdd(t, "none has", v, "z", 9, 19, 0, api.ErrFull)
	checkSet(t, "none has", v, "z", 9, 19, api.ErrFull)
	checkAll(t, "none has", v, l[2], l[3], given{"x", 7, -1}, given{"y", 8, -1})
	checkSet(t, "one has", v, "z", 9, 20, api.OK)
	checkAll(t, "one has", v, l[3], given{"x", 7, -1}, given{"y", 8, -1}, given{"z", 9, -1})
	checkSet(t, "none will", v, "c", 9, most, api.ErrFull)
	only := filled(t, 1, given{"a", 1, 10})
	for i := 1; i < 100; i++ {
		key := "a" + strconv.Itoa(i)
		checkSet(t, "one behind the other", only, key, i, 10*i-1, api.ErrFull)
		checkAdd(t, "one behind the other", only, key, i, 10*i, i, api.OK)
		checkExpire(t, "one behind the other", only, key, 10, 10*i, true)
		checkAll(t, "one behind the other", only, given{key, i, 10*i + 10})
	}
}

// TestNothingChanges is of the calls that only look.
func TestNothingChanges(t *testing.T) {
	for _, l := range [][]given{nil, {{"a", 1, -1}}, {{"a", 1, 10}}, {{"a", 1, 10}, {"b", 2, 1}, {"", 3, late}, {"c", 4, -1}}, numbered(50)} {
		for _, room := range []int{50, 60} {
			v := filled(t, room, l...)
			for range 2 {
				for _, now := range []int{most, late, 10, 9, 1, 0, -1, least} {
					for _, x := range append(slices.Clone(l), given{"missing", 0, 0}, given{"", 0, 0}) {
						v.Get(x.key, now)
						v.Left(x.key, now)
					}
					v.Len(now)
					v.Keys(now)
					v.Copy()
				}
			}
			checkAll(t, "looked", v, l...)
		}
	}
}

// TestKeys tells them byte by byte, in new memory.
func TestKeys(t *testing.T) {
	for _, want := range [][]string{
		nil,
		{"a"},
		{""},
		{"a", "b", "c"},
		{"", "\x00", "\x00\x00", "\x01", " ", "-1", "0", "00", "1", "10", "2", "A", "B", "Z", "a", "a\x00", "a ", "a:", "aa", "aaa", "ab", "b", "~", "\x7f", "\x80", "\xc3", "e\xcc\x81", "é", "\xff", "\xff\x00", "\xff\xff"},
	} {
		slices.SortFunc(want, func(x, y string) int { return slices.Compare([]byte(x), []byte(y)) })
		v := New(100)
		for i := range want {
			checkSet(t, "keys", v, want[(i*17+5)%len(want)], i, 0, api.OK)
		}
		for range 3 {
			l := v.Keys(0)
			if !slices.Equal(l, want) {
				t.Fatalf("%q, not %q", l, want)
			}
			other := v.Keys(0)
			l = append(l, "behind")
			for i := range l {
				l[i] = "changed"
			}
			if !slices.Equal(other, want) || v.Len(0) != len(want) {
				t.Fatalf("shared: %q", other)
			}
		}
	}
	v := filled(t, 10, given{"c", 1, 5}, given{"b", 1, -1}, given{"ba", 1, 7}, given{"", 1, 6})
	for now, want := range [][]string{5: {"", "b", "ba"}, 6: {"b", "ba"}, 7: {"b"}, 8: {"b"}} {
		if now >= 5 && !slices.Equal(v.Keys(now), want) {
			t.Errorf("at %d: %q, not %q", now, v.Keys(now), want)
		}
	}
}

// TestCopy: a copy is the same, with what ended and with the room; and neither knows what is done to the other.
func TestCopy(t *testing.T) {
	l := []given{{"a", 1, 10}, {"b", 2, 20}, {"c", 3, -1}}
	changes := []func(v *Vars){
		func(v *Vars) { v.Set("a", 7, 0) },
		func(v *Vars) { v.Add("b", 7, 0) },
		func(v *Vars) { v.Delete("c", 0) },
		func(v *Vars) { v.Expire("c", 7, 0) },
		func(v *Vars) { v.Set("x", 7, 15) },
		func(v *Vars) { v.Add("x", 7, 30) },
	}
	for _, room := range []int{3, 4} {
		for i, change := range changes {
			when := "copy, " + strconv.Itoa(i)
			v := filled(t, room, l...)
			w := v.Copy()
			checkAll(t, when, w, l...)
			change(w)
			checkAll(t, when, v, l...)
			w = v.Copy()
			change(v)
			checkAll(t, when, w, l...)
			if x := w.Copy().Copy(); x.room != room {
				t.Fatalf("%s: a room for %d, not %d", when, x.room, room)
			}
		}
		v := filled(t, room, l...).Copy()
		want := api.ErrFull
		if room == 4 {
			want = api.OK
		}
		checkSet(t, "the same room", v, "x", 4, 0, want)
	}
	for _, room := range []int{0, 1, 10000} {
		v := New(room).Copy()
		checkAll(t, "copy of none", v)
		if v == nil || v.room != room {
			t.Fatal("copy of none:", v)
		}
	}
}

// TestTwo know nothing of one another.
func TestTwo(t *testing.T) {
	v, w := New(2), New(2)
	checkSet(t, "two", v, "a", 1, 0, api.OK)
	checkAll(t, "two", w)
	checkAdd(t, "two", w, "a", 2, 0, 2, api.OK)
	checkExpire(t, "two", w, "a", 9, 0, true)
	checkDelete(t, "two", v, "a", 0, true)
	checkAll(t, "two", v)
	checkAll(t, "two", w, given{"a", 2, 9})
}

// TestNil asks Vars that are none, and such as New did not make.
func TestNil(t *testing.T) {
	for _, v := range []*Vars{nil, new(Vars)} {
		for _, key := range []string{"", "a"} {
			for _, now := range []int{least, 0, 5, most} {
				for _, n := range []int{least, 0, 5, most} {
					checkSet(t, "nil", v, key, n, now, api.ErrNil)
					checkAdd(t, "nil", v, key, n, now, 0, api.ErrNil)
					checkExpire(t, "nil", v, key, n, now, false)
				}
				checkDelete(t, "nil", v, key, now, false)
				checkAt(t, "nil", v, now, nil)
				checkOne(t, "nil", v, key, now, given{}, false)
			}
		}
		if v.Copy() != nil {
			t.Error("Copy")
		}
	}
}

// TestByValue: Vars that were copied by value are the same ones by another name.
func TestByValue(t *testing.T) {
	v := filled(t, 2, given{"a", 1, 10})
	w := *v
	checkSet(t, "by value", &w, "b", 2, 0, api.OK)
	checkSet(t, "by value", v, "c", 3, 0, api.ErrFull)
	checkSet(t, "by value", v, "c", 3, 10, api.OK)
	checkAll(t, "by value", v, given{"b", 2, -1}, given{"c", 3, -1})
	checkAll(t, "by value", &w, given{"b", 2, -1}, given{"c", 3, -1})
}

package ledger

import (
	"slices"
	"strconv"
	"testing"

	"tapster/api"
)

const (
	most  = 1<<63 - 1
	least = -1 << 63
	late  = 1 << 53
)

// clipped is what the document makes of a time.
func clipped(t int) int {
	if t < 0 {
		return 0
	}
	if t > late {
		return late
	}
	return t
}

// edges are times at which a clip goes wrong, or just doesn't.
func edges() []int {
	return []int{least, least + 1, -1 << 53, -1 << 32, -5, -1, 0, 1, 2, 1 << 31, 1 << 32, late - 1, late, late + 1, 1 << 62, most - 1, most}
}

// limit is one of a key, by a policy that may be.
func limit(key string, cost int) api.Limit {
	return api.Limit{Key: key, Policy: api.Policy{Kind: api.Bucket, Limit: 10, Period: 100, Burst: 10}, Cost: cost}
}

// limits are such as may be, and such as may not: a Ledger writes down all of them.
func limits() []api.Limit {
	return []api.Limit{
		limit("a", 1), limit("b", 2), limit("a:1:x:", api.MaxLimit),
		{}, {Key: "k"}, {Cost: 1}, limit("", 3), limit("c", 0), limit("d", -1), limit("e", least), limit("f", most), limit("\x00\xff", 4),
		{Key: "g", Policy: api.Policy{Kind: 5, Limit: -1, Period: most, Burst: least, Cap: -7, Open: true}, Cost: 5},
		{Key: "h", Policy: api.Policy{Open: true}, Cost: 6},
		{Key: "i", Policy: api.Policy{Kind: api.Log, Limit: 10, Period: 100, Cap: 3}, Cost: 7},
	}
}

// lists are limits in lists of none, of one, of many, of two that are the same, with room behind them and without.
func lists() [][]api.Limit {
	l := [][]api.Limit{nil, {}, make([]api.Limit, 0, 5), limits(), limits()[:3], slices.Repeat([]api.Limit{limit("a", 1)}, 2), slices.Repeat(limits(), 20), make([]api.Limit, 3)}
	for _, x := range limits() {
		l = append(l, []api.Limit{x}, []api.Limit{x, x}, []api.Limit{x, limit("a", 1), x})
	}
	return l
}

func due(id, till int, l ...api.Limit) api.Due {
	return api.Due{ID: id, Till: till, Limits: l}
}

func same(a, b api.Due) bool {
	return a.ID == b.ID && a.Till == b.Till && slices.Equal(a.Limits, b.Limits)
}

// limitOf is one that each ID has for itself, so that none is taken for another one.
func limitOf(id int) api.Limit {
	return limit("k"+strconv.Itoa(id), id)
}

// numbered are dues from ID 1 on, with the tills that are told.
func numbered(tills ...int) []api.Due {
	l := make([]api.Due, len(tills))
	for i, till := range tills {
		l[i] = due(i+1, clipped(till), limitOf(i+1))
	}
	return l
}

// filled is a Ledger in which the numbered ones are written down.
func filled(t testing.TB, tills ...int) *Ledger {
	t.Helper()
	l := New()
	for i, till := range tills {
		checkAdd(t, "filled", l, till, i+1, limitOf(i+1))
	}
	return l
}

// rows are count tills, scattered, with many that are the same.
func rows(count int) []int {
	l := make([]int, count)
	for i := range l {
		l[i] = i * 7919 % 211
	}
	return l
}

// without is l without the due of id.
func without(l []api.Due, id int) []api.Due {
	return slices.DeleteFunc(slices.Clone(l), func(x api.Due) bool { return x.ID == id })
}

// split tells those of l that are due at now, in the order in which they have to come, and the others.
func split(l []api.Due, now int) (come, rest []api.Due) {
	for _, x := range l {
		if x.Till > clipped(now) {
			rest = append(rest, x)
			continue
		}
		i := len(come)
		for i > 0 && (come[i-1].Till > x.Till || come[i-1].Till == x.Till && come[i-1].ID > x.ID) {
			i--
		}
		come = slices.Insert(come, i, x)
	}
	return come, rest
}

func checkAdd(t testing.TB, when string, l *Ledger, till, want int, x ...api.Limit) {
	t.Helper()
	if got, errno := l.Add(till, x...); got != want || errno != api.OK {
		t.Fatalf("%s: Add(%d, %v): %d, %d, not %d", when, till, x, got, errno, want)
	}
}

func checkFull(t testing.TB, when string, l *Ledger, till int, x ...api.Limit) {
	t.Helper()
	if got, errno := l.Add(till, x...); got != 0 || errno != api.ErrFull {
		t.Fatalf("%s: Add(%d, %v): %d, %d, though there is no room", when, till, x, got, errno)
	}
}

// checkOne holds one due that was told, by Get, Remove or Next.
func checkOne(t testing.TB, when string, got api.Due, is bool, want api.Due) {
	t.Helper()
	if !is || !same(got, want) {
		t.Fatalf("%s: %v, %t, not %v", when, got, is, want)
	}
}

// checkNone holds that nothing was told, by Get, Remove or Next.
func checkNone(t testing.TB, when string, got api.Due, is bool) {
	t.Helper()
	if is || got.ID != 0 || got.Till != 0 || len(got.Limits) != 0 {
		t.Fatalf("%s: %v, %t, not nothing", when, got, is)
	}
}

func checkRemove(t testing.TB, when string, l *Ledger, want api.Due) {
	t.Helper()
	got, is := l.Remove(want.ID)
	checkOne(t, when+": Remove", got, is, want)
}

// checkMissing holds that there is no due of an ID, for Get and for Remove.
func checkMissing(t testing.TB, when string, l *Ledger, id int) {
	t.Helper()
	when += ": of " + strconv.Itoa(id)
	got, is := l.Get(id)
	checkNone(t, when+": Get", got, is)
	got, is = l.Remove(id)
	checkNone(t, when+": Remove", got, is)
}

func checkDue(t testing.TB, when string, l *Ledger, now int, want ...api.Due) {
	t.Helper()
	if got := l.Due(now); !slices.EqualFunc(got, want, same) {
		t.Fatalf("%s: Due(%d): %v, not %v", when, now, got, want)
	}
}

// checkAll holds all that is told, if want is written down, by rising ID; and that nothing else is kept inside.
func checkAll(t testing.TB, when string, l *Ledger, last int, want ...api.Due) {
	t.Helper()
	if got := l.All(); !slices.EqualFunc(got, want, same) {
		t.Fatalf("%s: All: %v, not %v", when, got, want)
	}
	if got := l.Len(); got != len(want) {
		t.Fatalf("%s: Len: %d, not %d", when, got, len(want))
	}
	for _, x := range want {
		got, is := l.Get(x.ID)
		checkOne(t, when+": Get", got, is, x)
	}
	got, is := l.Next()
	if come, _ := split(want, most); len(come) > 0 {
		checkOne(t, when+": Next", got, is, come[0])
	} else {
		checkNone(t, when+": Next", got, is)
	}
	if l.made() && (len(l.dues) != len(want) || l.last != last) {
		t.Fatalf("%s: %d are kept, not %d; the last ID is %d, not %d", when, len(l.dues), len(want), l.last, last)
	}
}

// TestExample holds the chapter's.
func TestExample(t *testing.T) {
	l := New()
	checkAdd(t, "example 1", l, 9, 1)
	checkAdd(t, "example 1", l, 5, 2)
	checkAdd(t, "example 1", l, 5, 3)
	checkDue(t, "example 1", l, 5, due(2, 5), due(3, 5))
	checkAll(t, "example 1", l, 3, due(1, 9))
}

// TestNew: nothing is held, and the first ID is 1.
func TestNew(t *testing.T) {
	l := New()
	if l == nil {
		t.Fatal("nil")
	}
	checkAll(t, "new", l, 0)
	for _, n := range append(edges(), 1000, 1001) {
		checkMissing(t, "new", l, n)
		checkDue(t, "new", l, n)
	}
	checkAll(t, "new", l, 0)
	checkAdd(t, "new", l, 0, 1)
	checkAll(t, "new", l, 1, due(1, 0))
}

// TestTill: times are clipped on the way in, so that what is told of them is from 0 to MaxTime.
func TestTill(t *testing.T) {
	for _, till := range edges() {
		l := filled(t, till)
		checkAll(t, "till", l, 1, numbered(till)...)
		for _, now := range edges() {
			c := l.Copy()
			come, rest := split(numbered(till), now)
			checkDue(t, "till", c, now, come...)
			checkAll(t, "till", c, 1, rest...)
		}
	}
	l := filled(t, edges()...)
	checkAll(t, "all tills", l, len(edges()), numbered(edges()...)...)
	// A clock that tells less than 0, and one that tells more than there is, tell the first time and the last.
	for _, now := range []int{least, -1, 0, late - 1, late, late + 1, most} {
		c := l.Copy()
		come, rest := split(numbered(edges()...), now)
		if len(come) == 0 || (len(rest) == 0) != (now >= late) {
			t.Fatal(now, come, rest)
		}
		checkDue(t, "all tills", c, now, come...)
		checkAll(t, "all tills", c, len(edges()), rest...)
	}
}

// TestLimits writes down lists of all sorts, which come out as they were handed in, by each call.
func TestLimits(t *testing.T) {
	l := New()
	var all []api.Due
	for i, x := range lists() {
		checkAdd(t, "limits", l, 100-i, i+1, x...)
		all = append(all, due(i+1, clipped(100-i), x...))
		checkAll(t, "limits", l, i+1, all...)
	}
	checkAll(t, "limits, copied", l.Copy(), len(all), all...)
	c := l.Copy()
	come, _ := split(all, 100)
	checkDue(t, "limits", c, 100, come...)
	checkAll(t, "limits, all gone", c, len(all))
	for _, x := range all {
		checkRemove(t, "limits", l, x)
	}
	checkAll(t, "limits, all removed", l, len(all))
}

// TestNoLimits: where there are none, none come out, and no room behind none either.
func TestNoLimits(t *testing.T) {
	for _, x := range [][]api.Limit{nil, {}, make([]api.Limit, 0, 5), limits()[:0]} {
		l := New()
		checkAdd(t, "no limits", l, 5, 1, x...)
		one, _ := l.Get(1)
		next, _ := l.Next()
		gone, _ := l.Copy().Remove(1)
		for _, y := range []api.Due{one, next, gone, l.All()[0], l.Copy().Due(5)[0]} {
			if len(y.Limits) != 0 || cap(y.Limits) != 0 {
				t.Fatal(y, cap(y.Limits))
			}
		}
	}
}

// TestFull: there is room for MaxHolds; more are refused, and nothing changes, not even the next ID.
func TestFull(t *testing.T) {
	for _, count := range []int{0, 1, 998, 999} {
		l := filled(t, rows(count)...)
		checkAll(t, "not full", l, count, numbered(rows(count)...)...)
		checkAdd(t, "not full", l, 7, count+1)
		checkAll(t, "not full", l, count+1, append(numbered(rows(count)...), due(count+1, 7))...)
	}
	all := numbered(rows(1000)...)
	l := filled(t, rows(1000)...)
	checkAll(t, "full", l, 1000, all...)
	for _, till := range edges() {
		checkFull(t, "full", l, till)
		checkFull(t, "full", l, till, limits()...)
		checkMissing(t, "full", l, 1001)
	}
	checkAll(t, "full", l, 1000, all...)
	c := l.Copy()
	checkFull(t, "full, copied", c, 5)
	checkAll(t, "full, copied", c, 1000, all...)
	checkRemove(t, "full, copied", c, all[999])
	checkAdd(t, "full, copied", c, 5, 1001)
	checkFull(t, "full", l, 5)
}

// TestRoomAgain: behind a Remove there is room for one, behind a Due for as many as were due.
func TestRoomAgain(t *testing.T) {
	all := numbered(rows(1000)...)
	for _, id := range []int{1, 2, 500, 999, 1000} {
		l := filled(t, rows(1000)...)
		checkRemove(t, "behind a Remove", l, all[id-1])
		checkAll(t, "behind a Remove", l, 1000, without(all, id)...)
		checkAdd(t, "behind a Remove", l, 9, 1001)
		checkFull(t, "behind a Remove", l, 9)
		checkMissing(t, "behind a Remove", l, id)
		checkAll(t, "behind a Remove", l, 1001, append(without(all, id), due(1001, 9))...)
	}
	for _, now := range []int{0, 1, 100, 209, 210, late} {
		l := filled(t, rows(1000)...)
		come, rest := split(all, now)
		checkDue(t, "behind a Due", l, now, come...)
		checkAll(t, "behind a Due", l, 1000, rest...)
		for i := range come {
			checkAdd(t, "behind a Due", l, 300, 1001+i)
			rest = append(rest, due(1001+i, 300))
		}
		checkFull(t, "behind a Due", l, 300)
		checkAll(t, "behind a Due", l, 1000+len(come), rest...)
		checkDue(t, "behind a Due", l, -1)
		checkFull(t, "behind a Due of none", l, 300)
	}
	// A Remove of what is not there makes no room.
	l := filled(t, rows(1000)...)
	for _, id := range []int{least, -1, 0, 1001, most} {
		checkMissing(t, "no room", l, id)
		checkFull(t, "no room", l, 1)
	}
}

// TestIDs are told once and rise, whatever was removed or was due, though the last one or all were.
func TestIDs(t *testing.T) {
	l := New()
	last := 0
	for _, empty := range []func(){
		func() { checkRemove(t, "the last", l, due(last, 5)) },
		func() { checkDue(t, "the last", l, 5, due(last, 5)) },
		func() { checkMissing(t, "the last", l, last+1); checkRemove(t, "the last", l, due(last, 5)) },
		func() { checkDue(t, "the last", l, 4); checkDue(t, "the last", l, most, due(last, 5)) },
		func() { l = l.Copy(); checkRemove(t, "the last", l, due(last, 5)); l = l.Copy() },
	} {
		for range 300 {
			last++
			checkAdd(t, "IDs", l, 5, last)
			empty()
			checkAll(t, "IDs", l, last)
		}
	}
	for range 3 {
		for range 1000 {
			last++
			checkAdd(t, "many IDs", l, last%3, last)
		}
		checkFull(t, "many IDs", l, 2)
		if got := l.Due(2); len(got) != 1000 {
			t.Fatal(len(got), "were due")
		}
		checkAll(t, "many IDs", l, last)
	}
}

// TestGet asks for what there is, what there was, and what there never was; and changes nothing.
func TestGet(t *testing.T) {
	tills := []int{30, 10, 20, 10, -5, 10}
	all := numbered(tills...)
	l := filled(t, tills...)
	checkRemove(t, "get", l, all[3])
	checkDue(t, "get", l, 5, all[4])
	left := without(without(all, 4), 5)
	for range 3 {
		for _, id := range []int{least, least + 1, -1 << 32, -2, -1, 0, 4, 5, 7, 8, 1000, 1<<32 + 1, 1<<32 + 2, most} {
			got, is := l.Get(id)
			checkNone(t, "get", got, is)
		}
		for _, x := range left {
			got, is := l.Get(x.ID)
			checkOne(t, "get", got, is, x)
		}
		checkAll(t, "get", l, 6, left...)
	}
	checkAdd(t, "get", l, 10, 7)
	got, is := l.Get(7)
	checkOne(t, "get", got, is, due(7, 10))
}

// TestRemove takes away one, once: no other one goes with it, though it has the same Till and the same limits.
func TestRemove(t *testing.T) {
	for _, tills := range [][]int{{5}, {5, 5}, {5, 5, 5, 5}, {3, 1, 2}, {1, 2, 3, 4, 5}, {5, 4, 3, 2, 1}, edges(), rows(1000)} {
		all := numbered(tills...)
		step := max(1, len(all)/10)
		for id := 1; id <= len(all); id += step {
			l := filled(t, tills...)
			left := without(all, id)
			checkRemove(t, "once", l, all[id-1])
			checkAll(t, "once", l, len(all), left...)
			checkMissing(t, "twice", l, id)
			for _, id := range []int{least, -id, -1, 0, len(all) + 1, id + 1<<32, most} {
				checkMissing(t, "wrong", l, id)
			}
			checkAll(t, "twice", l, len(all), left...)
			come, _ := split(left, most)
			checkDue(t, "behind it", l, most, come...)
			checkMissing(t, "behind it", l, id)
			checkAll(t, "behind it", l, len(all))
		}
	}
}

// TestRemoveDue: what was due is there no more, neither for Get nor for Remove.
func TestRemoveDue(t *testing.T) {
	l := filled(t, 1, 2, 3)
	all := numbered(1, 2, 3)
	checkDue(t, "due", l, 2, all[0], all[1])
	checkMissing(t, "due", l, 1)
	checkMissing(t, "due", l, 2)
	checkRemove(t, "not due", l, all[2])
	checkDue(t, "removed", l, most)
	checkAll(t, "removed", l, 3)
}

// TestNext tells the first one, of several with the same Till the one that was written down first; and changes nothing.
func TestNext(t *testing.T) {
	for _, x := range []struct {
		tills []int
		want  []int
	}{
		{[]int{7}, []int{1}},
		{[]int{7, 7}, []int{1, 2}},
		{[]int{8, 7}, []int{2, 1}},
		{[]int{9, 5, 5}, []int{2, 3, 1}},
		{[]int{30, 10, 20, 10, -5}, []int{5, 2, 4, 3, 1}},
		{[]int{0, -1, least, 1, 0}, []int{1, 2, 3, 5, 4}},
		{[]int{late, late + 1, most, late - 1, late}, []int{4, 1, 2, 3, 5}},
		{[]int{5, 4, 3, 2, 1}, []int{5, 4, 3, 2, 1}},
		{[]int{2, 1, 2, 1, 2, 1}, []int{2, 4, 6, 1, 3, 5}},
	} {
		l := filled(t, x.tills...)
		left := numbered(x.tills...)
		for _, id := range x.want {
			for range 3 {
				got, is := l.Next()
				checkOne(t, "next", got, is, numbered(x.tills...)[id-1])
				checkAll(t, "next", l, len(x.tills), left...)
			}
			checkRemove(t, "next", l, numbered(x.tills...)[id-1])
			left = without(left, id)
		}
		got, is := l.Next()
		checkNone(t, "next of none", got, is)
	}
	l := filled(t, 5, 5)
	checkAdd(t, "earlier", l, 4, 3)
	got, is := l.Next()
	checkOne(t, "earlier", got, is, due(3, 4))
}

// TestDue asks at times ahead of all, in between, at just that of one, one before it and one behind it, and behind all.
func TestDue(t *testing.T) {
	for _, tills := range [][]int{nil, {10}, {10, 20, 30}, {30, 20, 10}, {20, 10, 30, 10, 20, 20, 30, 10}, {10, 10, 10}, {11, 10, 9, 10, 11}, rows(300), rows(1000)} {
		all := numbered(tills...)
		for _, now := range []int{-1, 0, 1, 8, 9, 10, 11, 12, 15, 19, 20, 21, 25, 29, 30, 31, 100, 209, 210, 211, late} {
			l := filled(t, tills...)
			come, rest := split(all, now)
			checkDue(t, "due", l, now, come...)
			checkAll(t, "due", l, len(all), rest...)
			checkDue(t, "the same time again", l, now)
			checkDue(t, "an earlier time", l, now-1)
			checkDue(t, "the first time", l, least)
			checkAll(t, "again", l, len(all), rest...)
			behind, _ := split(rest, most)
			checkDue(t, "the last time", l, most, behind...)
			checkAll(t, "the last time", l, len(all))
			checkDue(t, "the last time again", l, most)
		}
	}
}

// TestDueOrder: those of the same Till come by rising ID, in whatever order they stand among others.
func TestDueOrder(t *testing.T) {
	for _, x := range []struct {
		tills []int
		want  []int
	}{
		{[]int{5, 5, 5}, []int{1, 2, 3}},
		{[]int{6, 5, 6, 5}, []int{2, 4, 1, 3}},
		{[]int{7, 6, 5, 5, 6, 7}, []int{3, 4, 2, 5, 1, 6}},
		{[]int{-1, 0, least, 1}, []int{1, 2, 3, 4}},
		{[]int{most, late, late + 1, late - 1}, []int{4, 1, 2, 3}},
		{slices.Repeat([]int{3}, 20), []int{1, 2, 3, 4, 5, 6, 7, 8, 9, 10, 11, 12, 13, 14, 15, 16, 17, 18, 19, 20}},
	} {
		// A map goes through its keys in another order each time.
		for range 20 {
			l := filled(t, x.tills...)
			var got []int
			for _, y := range l.Due(late) {
				got = append(got, y.ID)
			}
			if !slices.Equal(got, x.want) {
				t.Fatalf("%v: %v, not %v", x.tills, got, x.want)
			}
		}
	}
	// By IDs, not by their texts: 9 comes ahead of 10, and 99 ahead of 100.
	l := filled(t, slices.Repeat([]int{3}, 1000)...)
	checkDue(t, "many", l, 3, numbered(slices.Repeat([]int{3}, 1000)...)...)
}

// TestAllRise: by IDs, whatever the Tills are, and behind whatever was removed.
func TestAllRise(t *testing.T) {
	tills := rows(120)
	left := numbered(tills...)
	l := filled(t, tills...)
	for i := range 40 {
		id := 1 + i*i*13%120
		if got, is := l.Remove(id); is {
			checkOne(t, "rise", got, is, numbered(tills...)[id-1])
			left = without(left, id)
		}
		more := due(121+i, 50-i)
		checkAdd(t, "rise", l, more.Till, more.ID)
		left = append(left, more)
		checkAll(t, "rise", l, more.ID, left...)
	}
	if !slices.IsSortedFunc(l.All(), func(a, b api.Due) int { return a.ID - b.ID }) {
		t.Fatal(l.All())
	}
}

// whole is all that a list has, with the room behind it.
func whole[T any](l []T) []T {
	return l[:cap(l)]
}

// spoil changes all that dues came with, the room behind them, and that behind their limits.
func spoil(l ...api.Due) {
	for i := range l {
		for j := range whole(l[i].Limits) {
			whole(l[i].Limits)[j] = limit("spoilt", -77)
		}
		l[i].ID, l[i].Till = -77, -77
	}
	for i := range whole(l) {
		whole(l)[i] = due(-77, -77, limit("spoilt", -77))
	}
}

// spoilt tells whether anything of dues is, in the room behind them as well.
func spoilt(l []api.Due) bool {
	for _, x := range whole(l) {
		for _, y := range whole(x.Limits) {
			if y.Key == "spoilt" {
				return true
			}
		}
		if x.ID == -77 || x.Till == -77 {
			return true
		}
	}
	return false
}

// TestHandedIn: limits that are handed in are not changed, nor is the room behind them; spoilt behind an Add, they change nothing.
func TestHandedIn(t *testing.T) {
	l := New()
	var all []api.Due
	for i, list := range lists() {
		x := make([]api.Limit, len(list), len(list)+3)
		copy(x, list)
		before := slices.Clone(whole(x))
		checkAdd(t, "handed in", l, 9, i+1, x...)
		all = append(all, due(i+1, 9, list...))
		l.Get(i + 1)
		spoil(l.All()...)
		if next, is := l.Next(); is {
			spoil(next)
		}
		if !slices.Equal(whole(x), before) {
			t.Fatalf("%v was made %v", before, whole(x))
		}
		for j := range whole(x) {
			whole(x)[j] = limit("spoilt", -77)
		}
		checkAll(t, "handed in", l, i+1, all...)
	}
	checkDue(t, "handed in", l, 9, all...)
	x := limits()
	l = New()
	for id := 1; id <= 3; id++ {
		checkAdd(t, "the same list", l, 9, id, x...)
	}
	x[0].Cost, x[1].Key = 99, "other"
	for id := 1; id <= 3; id++ {
		got, is := l.Remove(id)
		checkOne(t, "the same list", got, is, due(id, 9, limits()...))
	}
}

// waysOut are the calls by which dues come out of a Ledger.
func waysOut() []func(l *Ledger) []api.Due {
	return []func(l *Ledger) []api.Due{
		func(l *Ledger) []api.Due { return l.All() },
		func(l *Ledger) []api.Due { return l.Due(6) },
		func(l *Ledger) []api.Due { return l.Due(most) },
		func(l *Ledger) []api.Due {
			x, _ := l.Get(1)
			y, _ := l.Get(2)
			z, _ := l.Get(2)
			return []api.Due{x, y, z}
		},
		func(l *Ledger) []api.Due {
			x, _ := l.Next()
			y, _ := l.Next()
			return []api.Due{x, y}
		},
		func(l *Ledger) []api.Due {
			x, _ := l.Remove(1)
			y, _ := l.Remove(3)
			return []api.Due{x, y}
		},
	}
}

// TestSpoilt: what came out by any call and is spoilt then changes neither the Ledger, nor its copies, nor what came out by any other call.
func TestSpoilt(t *testing.T) {
	all := []api.Due{due(1, 6, limits()...), due(2, 5, limit("a", 1)), due(3, 7, limits()[:2]...), due(4, 5, limits()[:5]...)}
	for _, first := range waysOut() {
		for _, second := range waysOut() {
			l := New()
			for _, x := range all {
				checkAdd(t, "spoilt", l, x.Till, x.ID, x.Limits...)
			}
			other, kept := l.Copy(), l.Copy()
			a := first(l)
			b := second(other)
			c := second(l)
			left, others := l.All(), other.All()
			spoil(a...)
			if spoilt(b) || spoilt(c) || spoilt(left) {
				t.Fatal("shared:", b, c, left)
			}
			checkAll(t, "spoilt", l, 4, left...)
			checkAll(t, "spoilt, another one", other, 4, others...)
			spoil(b...)
			if spoilt(c) || spoilt(left) {
				t.Fatal("shared:", c, left)
			}
			spoil(c...)
			checkAll(t, "spoilt", l, 4, left...)
			checkAll(t, "spoilt, another one", other, 4, others...)
			checkAll(t, "spoilt, the copy", kept, 4, all...)
		}
	}
}

// TestOneList: of one list that comes out no two dues share limits, nor the room behind them, though they were written down with the same ones.
func TestOneList(t *testing.T) {
	for _, out := range []func(l *Ledger) []api.Due{(*Ledger).All, func(l *Ledger) []api.Due { return l.Due(5) }} {
		for i := range 10 {
			l := New()
			x := limits()
			for id := 1; id <= 10; id++ {
				checkAdd(t, "one list", l, 5, id, x[:id]...)
			}
			got := out(l)
			for j := range whole(got[i].Limits) {
				whole(got[i].Limits)[j] = limit("spoilt", -77)
			}
			got[i].Limits = append(got[i].Limits, limit("spoilt", -77))
			if rest := slices.Delete(slices.Clone(got), i, i+1); spoilt(rest[:len(rest):len(rest)]) {
				t.Fatal("shared:", rest)
			}
		}
	}
}

// TestNothingChanges is of the calls that only look.
func TestNothingChanges(t *testing.T) {
	for _, tills := range [][]int{nil, {5}, {9, 5, 5}, rows(999), rows(1000)} {
		l := filled(t, tills...)
		for range 3 {
			for _, n := range edges() {
				l.Get(n)
			}
			l.Get(1)
			l.Next()
			l.Len()
			l.All()
			l.Copy()
			l.Due(-1 << 40)
		}
		_, rest := split(numbered(tills...), 0)
		checkAll(t, "looked", l, len(tills), rest...)
		if len(rest) == 1000 {
			checkFull(t, "looked", l, 5)
		} else {
			checkAdd(t, "looked", l, 5, len(tills)+1)
		}
	}
}

// TestCopy: a copy is the same, limits included; and neither knows what is done to the other.
func TestCopy(t *testing.T) {
	changes := []func(l *Ledger){
		func(l *Ledger) { l.Add(4, limits()...) },
		func(l *Ledger) { l.Remove(1) },
		func(l *Ledger) { l.Due(100) },
		func(l *Ledger) { l.Due(most) },
		func(l *Ledger) { l.Due(most); l.Add(4); l.Add(5, limits()...) },
		func(l *Ledger) { l.Remove(1); l.Add(5, limit("other", 9)) },
		func(l *Ledger) { spoil(l.All()...) },
		func(l *Ledger) { spoil(l.Due(most)...) },
	}
	for _, tills := range [][]int{nil, {5}, {9, 5, 5}, {most, least}, rows(999), rows(1000)} {
		all := numbered(tills...)
		for i, change := range changes {
			when := "copy, " + strconv.Itoa(i)
			l := filled(t, tills...)
			c := l.Copy()
			checkAll(t, when, c, len(all), all...)
			change(c)
			checkAll(t, when+", the origin", l, len(all), all...)
			c = l.Copy()
			change(l)
			checkAll(t, when+", the copy", c, len(all), all...)
			checkAll(t, when+", its copy", c.Copy().Copy(), len(all), all...)
			come, _ := split(all, most)
			checkDue(t, when+", the copy", c, most, come...)
		}
	}
}

// TestCopyIDs: both go on from the same ID, each for itself.
func TestCopyIDs(t *testing.T) {
	l := filled(t, 5, 6, 7)
	checkRemove(t, "the origin", l, numbered(5, 6, 7)[2])
	c := l.Copy()
	checkAdd(t, "the copy", c, 1, 4, limit("c", 1))
	checkAdd(t, "the copy", c, 2, 5)
	checkAdd(t, "the origin", l, 3, 4, limit("l", 2))
	both := numbered(5, 6)
	checkAll(t, "the copy", c, 5, append(both, due(4, 1, limit("c", 1)), due(5, 2))...)
	checkAll(t, "the origin", l, 4, append(both, due(4, 3, limit("l", 2)))...)
	checkRemove(t, "the copy", c, due(4, 1, limit("c", 1)))
	got, is := l.Get(4)
	checkOne(t, "the origin", got, is, due(4, 3, limit("l", 2)))
	checkAdd(t, "the copy's copy", c.Copy(), 9, 6)
	checkAdd(t, "the copy", c, 9, 6)
	// Of one in which nothing is written down any more, the IDs go on all the same.
	l.Due(most)
	checkAdd(t, "a copy of none", l.Copy(), 9, 5)
	checkAdd(t, "a copy of a new one", New().Copy(), 9, 1)
}

// TestTwo know nothing of one another.
func TestTwo(t *testing.T) {
	x := limits()
	l, c := New(), New()
	checkAdd(t, "two", l, 5, 1, x...)
	checkAll(t, "two", c, 0)
	checkAdd(t, "two", c, 3, 1, x...)
	checkAdd(t, "two", c, 4, 2)
	checkRemove(t, "two", l, due(1, 5, x...))
	checkAll(t, "two", l, 1)
	checkAll(t, "two", c, 2, due(1, 3, x...), due(2, 4))
	full := filled(t, rows(1000)...)
	checkFull(t, "two", full, 5)
	checkAdd(t, "two", l, 5, 2)
}

// TestNil asks a Ledger that is none, and such as New did not make.
func TestNil(t *testing.T) {
	for _, l := range []*Ledger{nil, new(Ledger)} {
		for range 2 {
			for _, n := range append(edges(), 5, 1000, 1001) {
				for _, x := range [][]api.Limit{nil, {}, limits()} {
					if got, errno := l.Add(n, x...); got != 0 || errno != api.ErrNil {
						t.Fatalf("nil: Add(%d, %v): %d, %d", n, x, got, errno)
					}
				}
				checkMissing(t, "nil", l, n)
				checkDue(t, "nil", l, n)
			}
			checkAll(t, "nil", l, 0)
			if l.Copy() != nil {
				t.Error("Copy")
			}
		}
	}
}

// TestByValue: a Ledger that was copied by value is the same one by another name, so that no ID is told twice.
func TestByValue(t *testing.T) {
	l := filled(t, 5)
	c := *l
	checkAdd(t, "by value", &c, 6, 2)
	checkAdd(t, "by value", l, 7, 3)
	checkRemove(t, "by value", &c, numbered(5)[0])
	for _, x := range []*Ledger{l, &c} {
		checkAll(t, "by value", x, 3, due(2, 6), due(3, 7))
	}
}

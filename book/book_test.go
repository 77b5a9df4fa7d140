package book

import (
	"slices"
	"strconv"
	"strings"
	"testing"

	"tapster/api"
	"tapster/limiter"
)

const (
	most  = 1<<63 - 1
	least = -1 << 63
	// allowed are all bytes that a name may have.
	allowed = "abcdefghijklmnopqrstuvwxyzABCDEFGHIJKLMNOPQRSTUVWXYZ0123456789-_."
)

// laid is a policy, with its name and its version.
type laid struct {
	name    string
	policy  api.Policy
	version int
}

// small are policies of the four Kinds, in their order.
func small() []api.Policy {
	return []api.Policy{
		{Kind: api.Bucket, Limit: 10, Period: 100, Burst: 10},
		{Kind: api.Gcra, Limit: 10, Period: 100, Burst: 10},
		{Kind: api.Log, Limit: 10, Period: 100, Cap: 3},
		{Kind: api.Count, Limit: 10, Period: 100},
	}
}

// edges just may be: they have the most of all, or the least.
func edges() []api.Policy {
	return []api.Policy{
		{Kind: api.Bucket, Limit: api.MaxLimit, Period: api.MaxPeriod, Burst: api.MaxLimit},
		{Kind: api.Gcra, Limit: api.MaxLimit, Period: api.MaxPeriod, Burst: api.MaxLimit},
		{Kind: api.Log, Limit: api.MaxLimit, Period: api.MaxPeriod, Cap: api.MaxLog},
		{Kind: api.Count, Limit: api.MaxLimit, Period: api.MaxPeriod},
		{Kind: api.Bucket, Limit: 1, Period: 1, Burst: 1},
		{Kind: api.Gcra, Limit: 1, Period: 1, Burst: 1},
		{Kind: api.Log, Limit: 1, Period: 1, Cap: 1},
		{Kind: api.Count, Limit: 1, Period: 1},
	}
}

// wrong may not be: of no Kind, or with one field, or two, that their Kind may not have.
func wrong() []api.Policy {
	l := []api.Policy{{}, {Open: true}, {Kind: api.Bucket}, {Kind: api.Gcra}, {Kind: api.Log}, {Kind: api.Count}}
	for _, p := range small() {
		change := func(by func(p *api.Policy)) {
			q := p
			by(&q)
			l = append(l, q)
			q.Open = true
			l = append(l, q)
		}
		for _, n := range []int{least, -4, -1, 0, 5, 6, 1 << 32, 1<<32 + 1, most} {
			change(func(p *api.Policy) { p.Kind = n })
		}
		for _, n := range []int{least, -1, 0, api.MaxLimit + 1, most} {
			change(func(p *api.Policy) { p.Limit = n })
		}
		for _, n := range []int{least, -1, 0, api.MaxPeriod + 1, most} {
			change(func(p *api.Policy) { p.Period = n })
		}
		for _, n := range []int{least, -1, api.MaxLimit + 1, most} {
			change(func(p *api.Policy) { p.Burst = n })
			change(func(p *api.Policy) { p.Cap = n })
		}
		// What one Kind has to have, another one may not have.
		change(func(p *api.Policy) { p.Burst = 10 - p.Burst })
		change(func(p *api.Policy) { p.Cap = 3 - p.Cap })
		change(func(p *api.Policy) { p.Burst, p.Cap = 10, 3 })
	}
	return l
}

// wrongNames may not be, though most are much like such as may.
func wrongNames() []string {
	l := []string{
		"", " ", "\x00", "a ", " a", "a b", "a\n", "a\x00", "\x00a", "a/b", "a:b", "a,b", "a+b", "a`", "a@", "a[", "a{", "a/", "-:", "/0", "a\\", "a\"", "*", "é", "aé", "e\u0301", "\u212a", "\u017f", "a\uff41", "\uff0e", "\xff", "a\xff", "\x80", "\xe9", "\xc3", "a\xc1\xa1", "\x7f", "\xe1", "\xad", "\xae",
		strings.Repeat("a", 41), strings.Repeat(".", 42), strings.Repeat("Z", 80), strings.Repeat("0", 256), strings.Repeat("0", 257), strings.Repeat("_", 1<<16+1), strings.Repeat("é", 20), strings.Repeat("\x00", 40), strings.Repeat("a", 39) + " ", strings.Repeat("a", 40) + " ",
	}
	for _, c := range []string{" ", "/", ":", "\x00", "\xff", "é"} {
		l = append(l, c+strings.Repeat("b", 39), strings.Repeat("b", 20)+c+strings.Repeat("b", 18), strings.Repeat("b", 38)+c)
	}
	return l
}

// rightNames may be.
func rightNames() []string {
	return []string{"a", "z", "A", "Z", "0", "9", "-", "_", ".", "..", "--", "-1", "a.b", "A-z_0.9", "aa", "aA", "Aa", allowed[:40], allowed[25:], strings.Repeat("a", 39), strings.Repeat("a", 40), strings.Repeat("-", 40), strings.Repeat("9", 40)}
}

// numbered are count policies that differ, each with a name and a version of its own.
func numbered(count int) []laid {
	l := make([]laid, count)
	for i := range l {
		p := small()[i%4]
		p.Limit += i
		l[i] = laid{"n" + strconv.Itoa(i), p, i + 1}
	}
	return l
}

// filled is a Book in which the policies of l were laid, in their order.
func filled(t *testing.T, l ...laid) *Book {
	t.Helper()
	b := New()
	for _, x := range l {
		checkLay(t, "filled", b, x.name, x.policy, x.version, api.OK)
	}
	return b
}

// with is l with x in the place of what has its name.
func with(l []laid, x laid) []laid {
	return append(without(l, x.name), x)
}

func without(l []laid, name string) []laid {
	return slices.DeleteFunc(slices.Clone(l), func(x laid) bool { return x.name == name })
}

func checkLay(t *testing.T, when string, b *Book, name string, p api.Policy, want int, errno api.Errno) {
	t.Helper()
	if got, e := b.Lay(name, p); got != want || e != errno {
		t.Fatalf("%s: Lay(%q, %v): %d, %d, not %d, %d", when, name, p, got, e, want, errno)
	}
}

func checkDrop(t *testing.T, when string, b *Book, name string, want bool) {
	t.Helper()
	if got := b.Drop(name); got != want {
		t.Fatalf("%s: Drop(%q): %t", when, name, got)
	}
}

// checkNone holds that there is no policy of a name.
func checkNone(t *testing.T, when string, b *Book, name string) {
	t.Helper()
	if p, v, is := b.Get(name); p != (api.Policy{}) || v != 0 || is {
		t.Fatalf("%s: Get(%q): %v, %d, %t", when, name, p, v, is)
	}
}

// checkAll holds all that is told, if l stands in b; and that nothing else is kept inside.
func checkAll(t *testing.T, when string, b *Book, version int, l ...laid) {
	t.Helper()
	names := make([]string, len(l))
	for i, x := range l {
		names[i] = x.name
		if p, v, is := b.Get(x.name); p != x.policy || v != x.version || !is {
			t.Fatalf("%s: Get(%q): %v, %d, %t, not %v, %d", when, x.name, p, v, is, x.policy, x.version)
		}
	}
	slices.Sort(names)
	if got := b.Names(); !slices.Equal(got, names) {
		t.Fatalf("%s: Names: %q, not %q", when, got, names)
	}
	if got := b.Version(); got != version {
		t.Fatalf("%s: Version: %d, not %d", when, got, version)
	}
	if b.made() && len(b.editions) != len(l) {
		t.Fatalf("%s: %d are kept, not %d", when, len(b.editions), len(l))
	}
}

// TestExample holds the chapter's.
func TestExample(t *testing.T) {
	b := New()
	p := small()[0]
	q := p
	q.Burst = 11
	checkLay(t, "example 1", b, "a", p, 1, api.OK)
	checkLay(t, "example 1, the same again", b, "a", p, 1, api.OK)
	checkLay(t, "example 1, another one", b, "a", q, 2, api.OK)
}

// TestNew: without policies, and a Version of 0.
func TestNew(t *testing.T) {
	b := New()
	if b == nil {
		t.Fatal("nil")
	}
	checkAll(t, "new", b, 0)
	for _, name := range append(rightNames(), wrongNames()...) {
		checkNone(t, "new", b, name)
		checkDrop(t, "new", b, name, false)
	}
	checkAll(t, "new", b, 0)
}

// TestNamedLength asks for names of all lengths about the edges, of each byte that may be.
func TestNamedLength(t *testing.T) {
	for _, c := range allowed {
		for _, count := range []int{0, 1, 2, 3, 20, 38, 39, 40, 41, 42, 64, 80, 100, 255, 256, 257, 296, 1000, 1<<16 + 1} {
			name := strings.Repeat(string(c), count)
			if got := Named(name); got != (count >= 1 && count <= 40) {
				t.Errorf("%d times %q: %t", count, c, got)
			}
		}
	}
	// It is bytes that count, not letters.
	if Named(strings.Repeat("é", 20)) || Named("é") || Named("aé") {
		t.Error("é")
	}
}

// TestNamedBytes asks for each byte as a name of its own, and at each place within longer ones.
func TestNamedBytes(t *testing.T) {
	count := 0
	for c := range 256 {
		one := string([]byte{byte(c)})
		want := strings.Contains(allowed, one)
		if Named(one) != want {
			t.Errorf("%q: %t", one, !want)
		}
		if want {
			count++
		}
		for _, length := range []int{2, 3, 7, 39, 40} {
			for place := range length {
				name := []byte(strings.Repeat("x", length))
				name[place] = byte(c)
				if Named(string(name)) != want {
					t.Errorf("%q: %t", name, !want)
				}
			}
		}
		for d := range 256 {
			two := string([]byte{byte(c), byte(d)})
			if Named(two) != (want && strings.IndexByte(allowed, byte(d)) >= 0) {
				t.Errorf("%q: %t", two, Named(two))
			}
		}
	}
	if count != 26+26+10+3 {
		t.Error(count, "bytes may be")
	}
}

// TestNames asks for such as may be, and such as may not, and lays a policy by each.
func TestNames(t *testing.T) {
	p := small()[3]
	b := New()
	var l []laid
	for i, name := range rightNames() {
		if !Named(name) {
			t.Errorf("%q may not be", name)
		}
		l = append(l, laid{name, p, i + 1})
		checkLay(t, "right", b, name, p, i+1, api.OK)
	}
	checkAll(t, "right", b, len(l), l...)
	for _, name := range wrongNames() {
		if Named(name) {
			t.Errorf("%q may be", name)
		}
		checkLay(t, "wrong", b, name, p, 0, api.ErrArg)
		checkNone(t, "wrong", b, name)
		checkDrop(t, "wrong", b, name, false)
		checkLay(t, "wrong", New(), name, p, 0, api.ErrArg)
	}
	checkAll(t, "wrong", b, len(l), l...)
}

// TestLayRight lays policies that just may be, open or not.
func TestLayRight(t *testing.T) {
	b := New()
	var l []laid
	for i, p := range append(small(), edges()...) {
		for j, open := range []bool{false, true} {
			p.Open = open
			x := laid{"a", p, 2*i + j + 1}
			checkLay(t, "right", b, x.name, p, x.version, api.OK)
			checkAll(t, "right", b, x.version, x)
			l = append(l, laid{"n" + strconv.Itoa(x.version), p, x.version})
		}
	}
	checkAll(t, "right", filled(t, l...), len(l), l...)
}

// TestLayWrong lays policies that may not be, by names that are there, that are not, and that may not be.
func TestLayWrong(t *testing.T) {
	for _, l := range [][]laid{nil, {{"a", small()[0], 1}}, numbered(7), numbered(99), numbered(100)} {
		b := filled(t, l...)
		names := []string{"a", "b", "n0", "n6", "n98", "n99", "", "x y"}
		for _, p := range wrong() {
			if limiter.Check(p) != api.ErrArg {
				t.Fatal("may be:", p)
			}
			for _, name := range names {
				checkLay(t, "wrong", b, name, p, 0, api.ErrArg)
			}
		}
		checkAll(t, "wrong", b, len(l), l...)
		for _, name := range wrongNames() {
			checkLay(t, "wrong name", b, name, small()[1], 0, api.ErrArg)
			checkLay(t, "wrong name, and policy", b, name, api.Policy{}, 0, api.ErrArg)
		}
		checkAll(t, "wrong name", b, len(l), l...)
	}
}

// TestLaySame lays what is there already: nothing changes, however many there are.
func TestLaySame(t *testing.T) {
	for _, count := range []int{1, 2, 99, 100} {
		l := numbered(count)
		b := filled(t, l...)
		for range 3 {
			for _, x := range l {
				checkLay(t, "the same", b, x.name, x.policy, x.version, api.OK)
				if b.Version() != count {
					t.Fatal("Version:", b.Version())
				}
			}
		}
		checkAll(t, "the same", b, count, l...)
	}
}

// TestLayOneField lays what differs in one field alone.
func TestLayOneField(t *testing.T) {
	bucket, gcra, log, count := small()[0], small()[1], small()[2], small()[3]
	for i, x := range []struct {
		from   api.Policy
		change func(p *api.Policy)
	}{
		{bucket, func(p *api.Policy) { p.Kind = api.Gcra }},
		{gcra, func(p *api.Policy) { p.Kind = api.Bucket }},
		{bucket, func(p *api.Policy) { p.Limit++ }},
		{gcra, func(p *api.Policy) { p.Limit-- }},
		{log, func(p *api.Policy) { p.Limit = api.MaxLimit }},
		{count, func(p *api.Policy) { p.Limit = 1 }},
		{bucket, func(p *api.Policy) { p.Period-- }},
		{gcra, func(p *api.Policy) { p.Period = 1 }},
		{log, func(p *api.Policy) { p.Period++ }},
		{count, func(p *api.Policy) { p.Period += 1 << 32 }},
		{bucket, func(p *api.Policy) { p.Burst-- }},
		{gcra, func(p *api.Policy) { p.Burst++ }},
		{log, func(p *api.Policy) { p.Cap++ }},
		{log, func(p *api.Policy) { p.Cap = api.MaxLog }},
		{bucket, func(p *api.Policy) { p.Open = true }},
		{gcra, func(p *api.Policy) { p.Open = true }},
		{log, func(p *api.Policy) { p.Open = true }},
		{count, func(p *api.Policy) { p.Open = true }},
	} {
		when := "one field, " + strconv.Itoa(i)
		to := x.from
		x.change(&to)
		b := filled(t, laid{"a", x.from, 1}, laid{"b", x.from, 2})
		checkLay(t, when, b, "a", to, 3, api.OK)
		checkAll(t, when, b, 3, laid{"a", to, 3}, laid{"b", x.from, 2})
		checkLay(t, when+", the same", b, "a", to, 3, api.OK)
		// What it had earlier is another one by now.
		checkLay(t, when+", back", b, "a", x.from, 4, api.OK)
		checkAll(t, when+", back", b, 4, laid{"a", x.from, 4}, laid{"b", x.from, 2})
		checkLay(t, when+", and forth", b, "a", to, 5, api.OK)
		checkLay(t, when+", and forth", b, "b", to, 6, api.OK)
		checkAll(t, when+", and forth", b, 6, laid{"a", to, 5}, laid{"b", to, 6})
	}
}

// TestLayEarlier lays what a name had earlier, many times: each time it is a new one.
func TestLayEarlier(t *testing.T) {
	b := New()
	for i := range 1000 {
		p := small()[i%4]
		checkLay(t, "earlier", b, "a", p, i+1, api.OK)
		checkAll(t, "earlier", b, i+1, laid{"a", p, i + 1})
	}
}

// TestFull lays in Books that are full, and in such as are not quite.
func TestFull(t *testing.T) {
	l := numbered(100)
	p := small()[0]
	b := filled(t, l...)
	for _, name := range []string{"a", "n100", "n", "N0", "n00", "-", strings.Repeat("n", 40)} {
		for _, p := range []api.Policy{p, l[7].policy, edges()[3]} {
			checkLay(t, "full", b, name, p, 0, api.ErrFull)
			checkNone(t, "full", b, name)
		}
	}
	checkAll(t, "full", b, 100, l...)
	for _, x := range l {
		checkLay(t, "full, the same", b, x.name, x.policy, x.version, api.OK)
	}
	checkAll(t, "full, the same", b, 100, l...)
	for i := range l {
		l[i].policy.Period++
		l[i].version = 101 + i
		checkLay(t, "full, another one", b, l[i].name, l[i].policy, 101+i, api.OK)
	}
	checkAll(t, "full, another one", b, 200, l...)
	for i := range 100 {
		checkLay(t, "full again", b, "m"+strconv.Itoa(i), p, 0, api.ErrFull)
		checkDrop(t, "full again", b, l[i].name, true)
		more := laid{"m" + strconv.Itoa(i), p, 201 + i}
		checkLay(t, "behind a Drop", b, more.name, p, more.version, api.OK)
		checkLay(t, "behind a Drop", b, l[i].name, l[i].policy, 0, api.ErrFull)
		checkLay(t, "behind a Drop", b, "more", p, 0, api.ErrFull)
		l[i] = more
		checkAll(t, "behind a Drop", b, more.version, l...)
	}
	checkAll(t, "one less", filled(t, numbered(99)...), 99, numbered(99)...)
}

// TestWhichError: what may not be is told ahead of there being no room.
func TestWhichError(t *testing.T) {
	l := numbered(100)
	p := small()[2]
	b := filled(t, l...)
	for _, x := range []struct {
		name string
		p    api.Policy
		want api.Errno
	}{
		{"", p, api.ErrArg}, {"x y", p, api.ErrArg}, {strings.Repeat("a", 41), p, api.ErrArg},
		{"more", api.Policy{}, api.ErrArg}, {"more", wrong()[20], api.ErrArg}, {"n0", api.Policy{}, api.ErrArg}, {"", api.Policy{}, api.ErrArg},
		{"more", p, api.ErrFull},
	} {
		checkLay(t, "which error", b, x.name, x.p, 0, x.want)
	}
	checkAll(t, "which error", b, 100, l...)
}

// TestDrop takes away what is there, once; what is laid by its name then is a new one.
func TestDrop(t *testing.T) {
	for _, count := range []int{0, 1, 2, 5, 100} {
		for _, x := range append(numbered(count), laid{name: "a"}, laid{name: "n"}, laid{name: "N0"}, laid{name: ""}, laid{name: "x y"}, laid{name: strings.Repeat("n", 41)}) {
			l := numbered(count)
			b := filled(t, l...)
			is := x.version > 0
			l = without(l, x.name)
			checkDrop(t, "once", b, x.name, is)
			checkNone(t, "once", b, x.name)
			checkAll(t, "once", b, count, l...)
			checkDrop(t, "twice", b, x.name, false)
			checkAll(t, "twice", b, count, l...)
			if !is {
				continue
			}
			// Even of the same policy the version is a later one.
			x.version = count + 1
			checkLay(t, "again", b, x.name, x.policy, x.version, api.OK)
			l = append(l, x)
			checkAll(t, "again", b, count+1, l...)
			checkDrop(t, "and gone", b, x.name, true)
			x.version++
			checkLay(t, "and gone", b, x.name, x.policy, x.version, api.OK)
			checkAll(t, "and gone", b, x.version, with(l, x)...)
		}
	}
}

// TestDropAll: the versions go on, though nothing is left.
func TestDropAll(t *testing.T) {
	b := New()
	for i := range 500 {
		x := laid{"a" + strconv.Itoa(i%7), small()[i%3], i + 1}
		checkLay(t, "all", b, x.name, x.policy, x.version, api.OK)
		checkAll(t, "all", b, i+1, x)
		checkDrop(t, "all", b, x.name, true)
		checkAll(t, "all", b, i+1)
	}
}

// everyOther tells every other one of l, from the first or the second one on.
func everyOther(l []string, first int) []string {
	var half []string
	for i := first; i < len(l); i += 2 {
		half = append(half, l[i])
	}
	return half
}

// TestNamesRise tells them byte by byte, in new memory.
func TestNamesRise(t *testing.T) {
	p := small()[1]
	for _, want := range [][]string{
		nil,
		{"a"},
		{"a", "b"},
		{"-", "--", "-1", "-a", ".", "..", ".a", "0", "00", "1", "10", "100", "2", "9", "A", "AA", "Aa", "B", "Z", "_", "_a", "a", "a-", "a.", "a.b", "a0", "aA", "a_", "aa", "aaa", "aab", "ab", "b", "ba", "z", "zz"},
		{strings.Repeat("a", 38), strings.Repeat("a", 39), strings.Repeat("a", 40), strings.Repeat("a", 39) + "b"},
	} {
		if !slices.IsSortedFunc(want, func(x, y string) int { return slices.Compare([]byte(x), []byte(y)) }) {
			t.Fatalf("%q", want)
		}
		falling := slices.Clone(want)
		slices.Reverse(falling)
		for _, order := range [][]string{want, falling, append(everyOther(want, 0), everyOther(want, 1)...), append(everyOther(falling, 1), everyOther(falling, 0)...)} {
			b := New()
			for i, name := range order {
				checkLay(t, "rise", b, name, p, i+1, api.OK)
			}
			for range 3 {
				l := b.Names()
				other := b.Names()
				if !slices.Equal(l, want) {
					t.Fatalf("%q, not %q", l, want)
				}
				l = append(l, "behind")
				for i := range l {
					l[i] = "changed"
				}
				if behind := other[len(other):cap(other)]; len(behind) > 0 && behind[0] == "behind" || !slices.Equal(other, want) {
					t.Fatalf("shared: %q", other)
				}
				checkNone(t, "changed", b, "changed")
				checkDrop(t, "changed", b, "changed", false)
			}
		}
	}
}

// TestNothingChanges is of the calls that only look.
func TestNothingChanges(t *testing.T) {
	for _, count := range []int{0, 1, 2, 50, 100} {
		l := numbered(count)
		b := filled(t, l...)
		for range 3 {
			for _, x := range append(l, laid{name: "missing"}, laid{name: ""}, laid{name: "x y"}) {
				b.Get(x.name)
			}
			b.Names()
			b.Version()
			b.Copy()
		}
		checkAll(t, "looked", b, count, l...)
		want, errno := count+1, api.OK
		if count == 100 {
			want, errno = 0, api.ErrFull
		}
		checkLay(t, "looked", b, "missing", small()[0], want, errno)
	}
}

// TestGet tells a policy that is the caller's: what is done to it changes nothing.
func TestGet(t *testing.T) {
	l := numbered(4)
	b := filled(t, l...)
	for _, x := range l {
		p, _, _ := b.Get(x.name)
		p.Limit, p.Kind, p.Open = 77, 0, true
		if got, v, is := b.Get(x.name); got != x.policy || v != x.version || !is {
			t.Error(got, v, is)
		}
	}
	for _, name := range []string{"", "n", "N0", "n00", "n0 ", " n0", "n0\x00", "n4", "n-1", "\xff"} {
		checkNone(t, "get", b, name)
	}
	checkAll(t, "get", b, 4, l...)
}

// TestCopy: a copy is the same; and neither knows what is done to the other.
func TestCopy(t *testing.T) {
	p := edges()[0]
	changes := []func(b *Book){
		func(b *Book) { b.Lay("n0", p) },
		func(b *Book) { b.Drop("n0") },
		func(b *Book) { b.Lay("more", p) },
		func(b *Book) { b.Drop("n0"); b.Lay("n0", numbered(1)[0].policy) },
		func(b *Book) { b.Drop("n0"); b.Lay("more", p); b.Lay("more", small()[0]) },
	}
	for _, count := range []int{1, 2, 99, 100} {
		l := numbered(count)
		for i, change := range changes {
			when := "copy, " + strconv.Itoa(i)
			b := filled(t, l...)
			c := b.Copy()
			checkAll(t, when, c, count, l...)
			change(c)
			checkAll(t, when+", the origin", b, count, l...)
			c = b.Copy()
			change(b)
			checkAll(t, when+", the copy", c, count, l...)
			checkAll(t, when+", its copy", c.Copy().Copy(), count, l...)
		}
	}
	b := New()
	c := b.Copy()
	checkAll(t, "copy of none", c, 0)
	// From then on both go on with versions of their own, from the same one on.
	for i, p := range small() {
		checkLay(t, "the copy's own", c, "a", p, i+1, api.OK)
	}
	checkAll(t, "the origin", b, 0)
	checkLay(t, "the origin's own", b, "b", p, 1, api.OK)
	c = b.Copy()
	checkDrop(t, "the copy's own", c, "b", true)
	checkLay(t, "the copy's own", c, "b", p, 2, api.OK)
	checkLay(t, "the copy's own", c, "c", p, 3, api.OK)
	checkLay(t, "the origin's own", b, "b", p, 1, api.OK)
	checkLay(t, "the origin's own", b, "d", p, 2, api.OK)
	checkAll(t, "the copy", c, 3, laid{"b", p, 2}, laid{"c", p, 3})
	checkAll(t, "the origin", b, 2, laid{"b", p, 1}, laid{"d", p, 2})
}

// TestTwo know nothing of one another.
func TestTwo(t *testing.T) {
	p, q := small()[0], small()[1]
	b, c := New(), New()
	checkLay(t, "two", b, "a", p, 1, api.OK)
	checkAll(t, "two", c, 0)
	checkLay(t, "two", c, "a", q, 1, api.OK)
	checkLay(t, "two", c, "b", q, 2, api.OK)
	checkDrop(t, "two", b, "a", true)
	checkAll(t, "two", b, 1)
	checkAll(t, "two", c, 2, laid{"a", q, 1}, laid{"b", q, 2})
}

// TestNil asks a Book that is none, and such as New did not make.
func TestNil(t *testing.T) {
	for _, b := range []*Book{nil, new(Book)} {
		for range 2 {
			for _, name := range append(rightNames(), wrongNames()...) {
				for _, p := range append(small(), wrong()...) {
					checkLay(t, "nil", b, name, p, 0, api.ErrNil)
				}
				checkNone(t, "nil", b, name)
				checkDrop(t, "nil", b, name, false)
			}
			checkAll(t, "nil", b, 0)
			if b.Copy() != nil {
				t.Error("Copy")
			}
		}
	}
}

// TestByValue: a Book that was copied by value is the same one by another name, so that no version is told twice.
func TestByValue(t *testing.T) {
	p, q := small()[0], small()[1]
	b := filled(t, laid{"a", p, 1})
	c := *b
	checkLay(t, "by value", &c, "b", p, 2, api.OK)
	checkLay(t, "by value", b, "c", q, 3, api.OK)
	checkDrop(t, "by value", &c, "a", true)
	for _, x := range []*Book{b, &c} {
		checkAll(t, "by value", x, 3, laid{"b", p, 2}, laid{"c", q, 3})
	}
}

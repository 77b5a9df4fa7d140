package scope

import (
	"slices"
	"strconv"
	"strings"
	"testing"

	"tapster/api"
	"tapster/book"
)

const (
	most  = 1<<63 - 1
	least = -1 << 63
)

// small are policies of the four Kinds, in their order.
func small() []api.Policy {
	return []api.Policy{
		{Kind: api.Bucket, Limit: 10, Period: 100, Burst: 10},
		{Kind: api.Gcra, Limit: 10, Period: 100, Burst: 10},
		{Kind: api.Log, Limit: 10, Period: 100, Cap: 3},
		{Kind: api.Count, Limit: 10, Period: 100},
	}
}

// shelved is a Book in which the small policies have the names a to d, and the versions 1 to 4; e has the policy of a, and version 5.
func shelved(t testing.TB) *book.Book {
	t.Helper()
	b := book.New()
	for i, p := range append(small(), small()[0]) {
		lay(t, b, string(rune('a'+i)), p, i+1)
	}
	return b
}

func lay(t testing.TB, b *book.Book, name string, p api.Policy, version int) {
	t.Helper()
	if v, errno := b.Lay(name, p); v != version || errno != api.OK {
		t.Fatalf("Lay(%q, %v): %d, %d", name, p, v, errno)
	}
}

func wish(name string, deep, cost int) api.Wish {
	return api.Wish{Name: name, Deep: deep, Cost: cost}
}

// wishes are count of them that are the same.
func wishes(count int, name string, deep, cost int) []api.Wish {
	return slices.Repeat([]api.Wish{wish(name, deep, cost)}, count)
}

// parts are count parts of one byte each, no two of them the same.
func parts(count int) []string {
	l := make([]string, count)
	for i := range l {
		l[i] = string(rune('p' + i))
	}
	return l
}

func long(count int) string {
	return strings.Repeat("x", count)
}

func checkPath(t *testing.T, want api.Errno, l ...string) {
	t.Helper()
	kept := slices.Clone(l)
	if got := Path(l...); got != want {
		t.Errorf("Path of %d, %.200q: %d, not %d", len(l), l, got, want)
	}
	if !slices.Equal(l, kept) {
		t.Errorf("Path changed %.200q to %.200q", kept, l)
	}
}

func checkKey(t *testing.T, want, name string, version int, path []string, deep int) {
	t.Helper()
	if got := Key(name, version, path, deep); got != want {
		t.Errorf("Key(%q, %d, %q, %d): %q, not %q", name, version, path, deep, got, want)
	}
}

// checkLimits holds what wishes come to, where all of them may be.
func checkLimits(t *testing.T, when string, b *book.Book, path []string, l []api.Wish, want ...api.Limit) {
	t.Helper()
	if got, errno := Expand(b, path, l...); errno != api.OK || !slices.Equal(got, want) {
		t.Fatalf("%s: Expand(%q, %v): %v, %d, not %v", when, path, l, got, errno, want)
	}
}

// checkError holds which error is told, and that nothing else is told beside it.
func checkError(t *testing.T, when string, want api.Errno, b *book.Book, path []string, l ...api.Wish) {
	t.Helper()
	if got, errno := Expand(b, path, l...); errno != want || len(got) > 0 {
		t.Fatalf("%s: Expand(%.200q, %v): %v, %d, not %d", when, path, l, got, errno, want)
	}
}

func checkCost(t *testing.T, want int, is bool, costs ...int) {
	t.Helper()
	l := make([]api.Limit, len(costs))
	for i, cost := range costs {
		// What else a Limit has does not count.
		l[i] = api.Limit{Key: strconv.Itoa(i % 2), Policy: small()[i%4], Cost: cost}
	}
	if got, ok := Cost(l...); got != want || ok != is {
		t.Errorf("Cost of %v: %d, %t, not %d, %t", costs, got, ok, want, is)
	}
}

// TestExample holds the chapter's.
func TestExample(t *testing.T) {
	p := small()[3]
	b := book.New()
	lay(t, b, "p", p, 1)
	checkLimits(t, "example 1", b, []string{"t"}, []api.Wish{wish("p", 0, 1), wish("p", 0, 2)}, api.Limit{Key: "p:1:", Policy: p, Cost: 3})
}

// TestPathCount asks for paths of all counts of parts about the edge.
func TestPathCount(t *testing.T) {
	checkPath(t, api.OK)
	checkPath(t, api.OK, []string{}...)
	for count := range 9 {
		checkPath(t, api.OK, parts(count)...)
		checkPath(t, api.OK, slices.Repeat([]string{"a"}, count)...)
		checkPath(t, api.OK, slices.Repeat([]string{long(100)}, count)...)
	}
	for _, count := range []int{9, 10, 16, 100, 256, 257, 264, 1 << 16} {
		for _, part := range []string{"", "a", long(100), long(101)} {
			checkPath(t, api.ErrLong, slices.Repeat([]string{part}, count)...)
		}
	}
}

// TestPathPart lays a part of each length about the edges at each place of paths of each count.
func TestPathPart(t *testing.T) {
	for count := 1; count <= 8; count++ {
		for place := range count {
			for _, length := range []int{1, 2, 50, 99, 100, 101, 102, 200, 256, 257, 356, 1 << 16, 0} {
				want := api.OK
				switch {
				case length == 0:
					want = api.ErrArg
				case length > 100:
					want = api.ErrLong
				}
				l := parts(count)
				l[place] = long(length)
				checkPath(t, want, l...)
			}
		}
	}
}

// TestPathBytes: a part may have any bytes, and bytes are what counts.
func TestPathBytes(t *testing.T) {
	for c := range 256 {
		one := string([]byte{byte(c)})
		checkPath(t, api.OK, one)
		checkPath(t, api.OK, "a", one+one, "b")
		checkPath(t, api.OK, strings.Repeat(one, 100))
		checkPath(t, api.ErrLong, strings.Repeat(one, 101))
	}
	checkPath(t, api.OK, strings.Repeat("é", 50))
	checkPath(t, api.ErrLong, strings.Repeat("é", 51))
	checkPath(t, api.ErrLong, strings.Repeat("é", 50)+"a")
	checkPath(t, api.OK, " ", ":", "\\", "\x00", "\xff", "..", "/")
	checkPath(t, api.OK, "a", "a", "a")
}

// TestPathWhich: too many or too long is told ahead of a part without bytes, in whatever order they stand.
func TestPathWhich(t *testing.T) {
	for _, count := range []int{2, 3, 7, 8} {
		for i := range count {
			for j := range count {
				if i == j {
					continue
				}
				l := parts(count)
				l[i], l[j] = "", long(101)
				checkPath(t, api.ErrLong, l...)
				l[j] = ""
				checkPath(t, api.ErrArg, l...)
			}
		}
	}
	for _, bad := range []string{"", long(101)} {
		for place := range 9 {
			l := parts(9)
			l[place] = bad
			checkPath(t, api.ErrLong, l...)
		}
	}
	checkPath(t, api.ErrLong, "", long(101), "")
	checkPath(t, api.ErrLong, append(parts(8), "")...)
	checkPath(t, api.ErrLong, append([]string{"", long(101)}, parts(7)...)...)
}

// TestKeyDeep clips it to the parts that there are.
func TestKeyDeep(t *testing.T) {
	for count := range 11 {
		l := parts(count)
		for _, deep := range []int{least, least + 1, -1 << 32, -9, -2, -1, 0, 1, 2, 3, 4, 5, 6, 7, 8, 9, 10, 11, 12, 1 << 32, most - 1, most} {
			want := "n:7:"
			for i, part := range l {
				if i < deep {
					want += part + ":"
				}
			}
			checkKey(t, want, "n", 7, l, deep)
		}
	}
	checkKey(t, "n:7:", "n", 7, nil, 1)
	checkKey(t, "n:7:", "n", 7, []string{}, 0)
}

// TestKeyVersion prints it.
func TestKeyVersion(t *testing.T) {
	for _, x := range []struct {
		version int
		text    string
	}{
		{0, "0"}, {1, "1"}, {-1, "-1"}, {9, "9"}, {10, "10"}, {-10, "-10"}, {1 << 32, "4294967296"},
		{most, "9223372036854775807"}, {least, "-9223372036854775808"}, {least + 1, "-9223372036854775807"},
	} {
		checkKey(t, "a:"+x.text+":b:", "a", x.version, []string{"b"}, 1)
		checkKey(t, "a:"+x.text+":", "a", x.version, []string{"b"}, 0)
	}
}

// TestKeyBytes: names and parts of any bytes, and of none, have keys, though no path may have them.
func TestKeyBytes(t *testing.T) {
	for c := range 256 {
		one := string([]byte{byte(c)})
		want := one
		if one == ":" || one == "\\" {
			want = "\\" + one
		}
		checkKey(t, want+":1:"+want+want+":b:", one, 1, []string{one + one, "b"}, 2)
	}
	checkKey(t, ":0:", "", 0, nil, 0)
	checkKey(t, ":0:::", "", 0, []string{"", ""}, 2)
	checkKey(t, ":0:a::", "", 0, []string{"a", ""}, 2)
	checkKey(t, `a\:1\:b:1:\\\::`, "a:1:b", 1, []string{`\:`}, 1)
	checkKey(t, long(500)+":1:"+long(999)+":", long(500), 1, []string{long(999)}, 1)
	checkKey(t, "é:1:\xc3:", "é", 1, []string{"\xc3"}, 1)
}

// TestKeyDiffers wherever name, version, or the parts that count differ; and is the same where these are.
func TestKeyDiffers(t *testing.T) {
	type asked struct {
		counts string
		key    string
	}
	var all []asked
	for _, name := range []string{"", "a", "a:", "a:1", `a\`, ":", "1", "b"} {
		for _, version := range []int{least, -1, 0, 1, 11, most} {
			for _, path := range [][]string{nil, {""}, {"", ""}, {"b"}, {"b", "c"}, {"b:c"}, {"b:", "c"}, {"b", ":c"}, {`b\`, "c"}, {`b\:c`}, {"1"}, {"-1"}, {"a", "1"}} {
				for _, deep := range []int{-1, 0, 1, 2, 3} {
					counted := path[:min(max(deep, 0), len(path))]
					counts := strconv.Quote(name) + strconv.Itoa(version)
					for _, part := range counted {
						counts += strconv.Quote(part)
					}
					all = append(all, asked{counts, Key(name, version, path, deep)})
				}
			}
		}
	}
	keyOf, countsOf := map[string]string{}, map[string]string{}
	for _, x := range all {
		if key, told := keyOf[x.counts]; told && key != x.key {
			t.Fatalf("%s: %q, and %q", x.counts, key, x.key)
		}
		if counts, told := countsOf[x.key]; told && counts != x.counts {
			t.Fatalf("%q: of %s, and of %s", x.key, counts, x.counts)
		}
		keyOf[x.counts], countsOf[x.key] = x.key, x.counts
	}
	if len(keyOf) != len(countsOf) || len(keyOf) < 8*6*15 {
		t.Fatal(len(keyOf), len(countsOf))
	}
}

// TestKeyKeeps: neither the path nor what stands behind it is changed.
func TestKeyKeeps(t *testing.T) {
	room := []string{"a", "b", "c", "d"}
	for deep := range 4 {
		Key("n", 1, room[:2], deep)
		if !slices.Equal(room, []string{"a", "b", "c", "d"}) {
			t.Fatalf("%q", room)
		}
	}
}

// TestNothing is wished.
func TestNothing(t *testing.T) {
	for _, b := range []*book.Book{nil, new(book.Book), book.New(), shelved(t)} {
		checkLimits(t, "nothing", b, nil, nil)
		checkLimits(t, "nothing", b, []string{}, []api.Wish{})
		checkLimits(t, "nothing", b, parts(8), nil)
	}
}

// TestExpandPath tells Path's error, whatever is wished.
func TestExpandPath(t *testing.T) {
	b := shelved(t)
	for _, l := range [][]api.Wish{nil, {wish("a", 0, 1)}, {wish("x", 0, 1)}, {wish("a", -1, 0)}, {wish("a", 0, api.MaxLimit+1)}, wishes(20, "a", 0, 1), wishes(21, "a", 0, 1), wishes(21, "x", -1, 0)} {
		checkError(t, "path", api.ErrArg, b, []string{""}, l...)
		checkError(t, "path", api.ErrArg, b, []string{"t", "", "u"}, l...)
		checkError(t, "path", api.ErrLong, b, parts(9), l...)
		checkError(t, "path", api.ErrLong, b, []string{"", long(101)}, l...)
		checkError(t, "path", api.ErrArg, nil, []string{""}, l...)
		checkError(t, "path", api.ErrLong, nil, []string{long(101)}, l...)
	}
	checkLimits(t, "path", b, append(parts(7), long(100)), []api.Wish{wish("a", 8, 1)}, api.Limit{Key: "a:1:p:q:r:s:t:u:v:" + long(100) + ":", Policy: small()[0], Cost: 1})
}

// TestExpandCount: 20 wishes may be; more may not, whatever they are.
func TestExpandCount(t *testing.T) {
	b := shelved(t)
	p := small()[0]
	for count := 1; count <= 20; count++ {
		checkLimits(t, "count", b, nil, wishes(count, "a", 0, 3), api.Limit{Key: "a:1:", Policy: p, Cost: 3 * count})
	}
	for _, count := range []int{21, 22, 40, 256, 257, 276, 1 << 16} {
		for _, w := range []api.Wish{wish("a", 0, 1), wish("x", 0, 1), wish("a", -1, 1), wish("a", 0, 0), wish("a", 0, api.MaxLimit+1), {}} {
			checkError(t, "count", api.ErrLong, b, nil, slices.Repeat([]api.Wish{w}, count)...)
			checkError(t, "count", api.ErrLong, b, []string{"t"}, slices.Repeat([]api.Wish{w}, count)...)
			checkError(t, "count", api.ErrLong, nil, nil, slices.Repeat([]api.Wish{w}, count)...)
		}
	}
}

// TestExpandMany: 20 wishes, each of a key of its own.
func TestExpandMany(t *testing.T) {
	b := book.New()
	var l []api.Wish
	var want []api.Limit
	for i := range 20 {
		name := string(rune('a' + i))
		p := small()[i%4]
		p.Limit += i
		lay(t, b, name, p, i+1)
		l = append(l, wish(name, 0, i+1))
		want = append(want, api.Limit{Key: name + ":" + strconv.Itoa(i+1) + ":", Policy: p, Cost: i + 1})
	}
	checkLimits(t, "many", b, nil, l, want...)
	slices.Reverse(l)
	checkLimits(t, "many", b, nil, l, want...)
}

// TestExpandDeep: as many parts as there are, and no more.
func TestExpandDeep(t *testing.T) {
	b := shelved(t)
	for count := range 9 {
		path := parts(count)
		key := "b:2:"
		for deep := range count + 1 {
			if deep > 0 {
				key += path[deep-1] + ":"
			}
			checkLimits(t, "deep", b, path, []api.Wish{wish("b", deep, 4)}, api.Limit{Key: key, Policy: small()[1], Cost: 4})
		}
		for _, deep := range []int{least, -1 << 32, -9, -2, -1, count + 1, count + 2, 9, 256, 1 << 32, most} {
			checkError(t, "deep", api.ErrArg, b, path, wish("b", deep, 4))
		}
	}
}

// TestExpandCost: from 1 to MaxLimit.
func TestExpandCost(t *testing.T) {
	b := shelved(t)
	for _, cost := range []int{1, 2, 10, 11, api.MaxLimit - 1, api.MaxLimit} {
		checkLimits(t, "cost", b, nil, []api.Wish{wish("c", 0, cost)}, api.Limit{Key: "c:3:", Policy: small()[2], Cost: cost})
	}
	for _, cost := range []int{0, -1, -2, -api.MaxLimit, -1 << 32, least + 1, least} {
		checkError(t, "cost", api.ErrArg, b, nil, wish("c", 0, cost))
	}
	for _, cost := range []int{api.MaxLimit + 1, 1 << 21, 1 << 32, 1<<32 + 1, most - 1, most} {
		checkError(t, "cost", api.ErrOver, b, nil, wish("c", 0, cost))
	}
}

// TestExpandName: it is that of a policy, byte by byte, or of none.
func TestExpandName(t *testing.T) {
	b := shelved(t)
	for _, name := range []string{"", "A", "f", "aa", "a ", " a", "a:", "a:1", "a:1:", "a\x00", "\xff", long(40), long(41), long(1000)} {
		checkError(t, "name", api.ErrNone, b, nil, wish(name, 0, 1))
		checkError(t, "name", api.ErrNone, b, parts(8), wish(name, 8, 1))
	}
	for _, name := range []string{"a", "A", "-", "..", "a.b", "0", "Z_9", long(40)} {
		b := book.New()
		lay(t, b, name, small()[0], 1)
		checkLimits(t, "name", b, nil, []api.Wish{wish(name, 0, 1)}, api.Limit{Key: name + ":1:", Policy: small()[0], Cost: 1})
	}
}

// TestNone: a Book that is none, one that New did not make, and one without policies.
func TestNone(t *testing.T) {
	empty := shelved(t)
	for _, name := range empty.Names() {
		empty.Drop(name)
	}
	for _, b := range []*book.Book{nil, new(book.Book), book.New(), empty} {
		for _, w := range []api.Wish{wish("a", 0, 1), wish("", 0, 1), wish("a", -1, 0), wish("a", 0, most), {}} {
			checkError(t, "none", api.ErrNone, b, nil, w)
			checkError(t, "none", api.ErrNone, b, parts(8), w, w)
			checkError(t, "none", api.ErrNone, b, nil, slices.Repeat([]api.Wish{w}, 20)...)
			checkError(t, "none", api.ErrLong, b, nil, slices.Repeat([]api.Wish{w}, 21)...)
			checkError(t, "none", api.ErrLong, b, parts(9), w)
			checkError(t, "none", api.ErrArg, b, []string{""}, w)
		}
	}
}

// TestWhichOfOne: where one wish has several errors, there being no such policy comes first, and what is too great last.
func TestWhichOfOne(t *testing.T) {
	b := shelved(t)
	path := parts(2)
	for _, deep := range []int{-1, 0, 2, 3} {
		for _, cost := range []int{0, 1, api.MaxLimit + 1, least, most} {
			checkError(t, "which", api.ErrNone, b, path, wish("x", deep, cost))
		}
	}
	for _, deep := range []int{least, -1, 3, most} {
		for _, cost := range []int{least, 0, 1, api.MaxLimit, api.MaxLimit + 1, most} {
			checkError(t, "which", api.ErrArg, b, path, wish("a", deep, cost))
			checkError(t, "which", api.ErrArg, b, path, wish("a", 2, api.MaxLimit), wish("a", deep, cost))
		}
	}
	checkError(t, "which", api.ErrOver, b, path, wish("a", 2, api.MaxLimit), wish("a", 2, 1))
}

// TestWhichOfTwo: the first wish that may not be tells its error, whatever comes behind it.
func TestWhichOfTwo(t *testing.T) {
	b := shelved(t)
	path := []string{"t"}
	bad := []struct {
		w    api.Wish
		want api.Errno
	}{
		{wish("x", 0, 1), api.ErrNone},
		{wish("a", 2, 1), api.ErrArg},
		{wish("a", -1, 1), api.ErrArg},
		{wish("a", 0, 0), api.ErrArg},
		{wish("a", 1, api.MaxLimit+1), api.ErrOver},
		{wish("e", 0, most), api.ErrOver},
		// Too great behind another one of the same key.
		{wish("b", 0, api.MaxLimit), api.ErrOver},
	}
	good := []api.Wish{wish("b", 0, 1), wish("a", 1, 1), wish("c", 1, 1)}
	for _, first := range bad {
		for _, second := range bad {
			for _, between := range []int{0, 1, 3, 15} {
				l := append(slices.Clone(good), first.w)
				l = append(l, wishes(between, "d", 1, 1)...)
				l = append(l, second.w)
				checkError(t, "which of two", first.want, b, path, l...)
			}
		}
		checkError(t, "which of two", first.want, b, path, append(slices.Clone(good), first.w)...)
		checkError(t, "which of two", first.want, b, path, append(append(slices.Clone(good), first.w), good...)...)
	}
}

// TestOver: the costs of one key come to MaxLimit, and to one more, by few wishes and by many.
func TestOver(t *testing.T) {
	b := shelved(t)
	path := []string{"t"}
	limit := api.Limit{Key: "a:1:t:", Policy: small()[0], Cost: api.MaxLimit}
	one := wish("a", 1, 1)
	for _, count := range []int{1, 2, 3, 10, 18} {
		share := (api.MaxLimit - 1) / count
		l := append(wishes(count, "a", 1, share), wish("a", 1, api.MaxLimit-count*share))
		checkLimits(t, "all that may be", b, path, l, limit)
		checkError(t, "one more", api.ErrOver, b, path, append(l, one)...)
		checkError(t, "one more at once", api.ErrOver, b, path, append(slices.Clone(l[:count]), wish("a", 1, l[count].Cost+1))...)
		checkError(t, "one more ahead", api.ErrOver, b, path, append([]api.Wish{one}, l...)...)
		for _, cost := range []int{api.MaxLimit, 1 << 32, most - api.MaxLimit, most - api.MaxLimit + 1, most - 1, most} {
			checkError(t, "far more", api.ErrOver, b, path, append(slices.Clone(l), wish("a", 1, cost))...)
			checkError(t, "far more ahead", api.ErrOver, b, path, wish("a", 1, 1), wish("a", 1, cost))
		}
		// What is wrong ahead of that wish is told, and what is wrong behind it is not.
		for _, x := range []struct {
			w    api.Wish
			want api.Errno
		}{{wish("x", 1, 1), api.ErrNone}, {wish("a", 2, 1), api.ErrArg}, {wish("a", 1, 0), api.ErrArg}} {
			checkError(t, "wrong ahead", x.want, b, path, append(slices.Clone(l[:count]), x.w, wish("a", 1, most))...)
			checkError(t, "wrong behind", api.ErrOver, b, path, append(slices.Clone(l[:count]), wish("a", 1, most), x.w)...)
		}
	}
	// Of several keys each has MaxLimit.
	checkLimits(t, "each", b, path, []api.Wish{wish("b", 0, api.MaxLimit), wish("a", 1, api.MaxLimit), wish("a", 0, api.MaxLimit), wish("e", 1, api.MaxLimit)},
		api.Limit{Key: "a:1:", Policy: small()[0], Cost: api.MaxLimit}, limit, api.Limit{Key: "b:2:", Policy: small()[1], Cost: api.MaxLimit}, api.Limit{Key: "e:5:t:", Policy: small()[0], Cost: api.MaxLimit})
}

// TestTogether: wishes of one key are one Limit; those of another Deep or name are not, even of the same policy.
func TestTogether(t *testing.T) {
	b := shelved(t)
	path := []string{"t", "t"}
	p, q := small()[0], small()[1]
	checkLimits(t, "the same", b, path, []api.Wish{wish("a", 1, 3), wish("a", 1, 3)}, api.Limit{Key: "a:1:t:", Policy: p, Cost: 6})
	checkLimits(t, "other Deeps", b, path, []api.Wish{wish("a", 2, 1), wish("a", 0, 2), wish("a", 1, 4)},
		api.Limit{Key: "a:1:", Policy: p, Cost: 2}, api.Limit{Key: "a:1:t:", Policy: p, Cost: 4}, api.Limit{Key: "a:1:t:t:", Policy: p, Cost: 1})
	checkLimits(t, "two policies", b, path, []api.Wish{wish("b", 1, 1), wish("a", 1, 2), wish("b", 1, 4)},
		api.Limit{Key: "a:1:t:", Policy: p, Cost: 2}, api.Limit{Key: "b:2:t:", Policy: q, Cost: 5})
	checkLimits(t, "two names", b, path, []api.Wish{wish("e", 1, 1), wish("a", 1, 2), wish("e", 1, 4), wish("a", 1, 8)},
		api.Limit{Key: "a:1:t:", Policy: p, Cost: 10}, api.Limit{Key: "e:5:t:", Policy: p, Cost: 5})
}

// TestEveryOrder of wishes comes to the same.
func TestEveryOrder(t *testing.T) {
	b := shelved(t)
	path := []string{"t", "u:v"}
	p, q := small()[0], small()[1]
	want := []api.Limit{{Key: "a:1:", Policy: p, Cost: 1}, {Key: "a:1:t:", Policy: p, Cost: 10}, {Key: `b:2:t:u\:v:`, Policy: q, Cost: 4}, {Key: "e:5:t:", Policy: p, Cost: 48}}
	l := []api.Wish{wish("a", 0, 1), wish("a", 1, 2), wish("b", 2, 4), wish("a", 1, 8), wish("e", 1, 16), wish("e", 1, 32)}
	orders := 0
	var try func(place int)
	try = func(place int) {
		if place == len(l) {
			orders++
			checkLimits(t, "every order", b, path, l, want...)
			return
		}
		for i := place; i < len(l); i++ {
			l[place], l[i] = l[i], l[place]
			try(place + 1)
			l[place], l[i] = l[i], l[place]
		}
	}
	try(0)
	if orders != 720 {
		t.Error(orders)
	}
}

// TestRising: by the keys byte by byte, in which a ":" stands behind each name.
func TestRising(t *testing.T) {
	rising := []string{"-", "A", "Z", "_", "a-", "a-a", "a.", "a0", "a99", "a9", "a", "aA", "aZ", "a_", "aa", "aaa", "az", "b"}
	order := slices.Clone(rising)
	for range 2 {
		b := book.New()
		var l []api.Wish
		for i, name := range order {
			lay(t, b, name, small()[i%4], i+1)
			l = append(l, wish(name, i%3, i+1))
		}
		got, errno := Expand(b, []string{"\xff", "\x00"}, l...)
		if errno != api.OK || len(got) != len(rising) {
			t.Fatal(got, errno)
		}
		for i, x := range got {
			if !strings.HasPrefix(x.Key, rising[i]+":") || i > 0 && slices.Compare([]byte(got[i-1].Key), []byte(x.Key)) >= 0 {
				t.Fatal(i, got)
			}
		}
		slices.Reverse(order)
	}
}

// TestLaidAnew: the keys of a policy that was laid anew are others, and it is its last one that is told.
func TestLaidAnew(t *testing.T) {
	b := shelved(t)
	path := []string{"t"}
	l := []api.Wish{wish("b", 1, 2), wish("a", 1, 1)}
	p, q, r := small()[0], small()[1], small()[2]
	checkLimits(t, "at first", b, path, l, api.Limit{Key: "a:1:t:", Policy: p, Cost: 1}, api.Limit{Key: "b:2:t:", Policy: q, Cost: 2})
	lay(t, b, "a", p, 1)
	checkLimits(t, "the same again", b, path, l, api.Limit{Key: "a:1:t:", Policy: p, Cost: 1}, api.Limit{Key: "b:2:t:", Policy: q, Cost: 2})
	lay(t, b, "a", r, 6)
	checkLimits(t, "another one", b, path, l, api.Limit{Key: "a:6:t:", Policy: r, Cost: 1}, api.Limit{Key: "b:2:t:", Policy: q, Cost: 2})
	lay(t, b, "a", p, 7)
	checkLimits(t, "the first one again", b, path, l, api.Limit{Key: "a:7:t:", Policy: p, Cost: 1}, api.Limit{Key: "b:2:t:", Policy: q, Cost: 2})
	b.Drop("a")
	checkError(t, "dropped", api.ErrNone, b, path, l...)
	lay(t, b, "a", p, 8)
	lay(t, b, "b", p, 9)
	lay(t, b, "b", q, 10)
	checkLimits(t, "both", b, path, l, api.Limit{Key: "a:8:t:", Policy: p, Cost: 1}, api.Limit{Key: "b:10:t:", Policy: q, Cost: 2})
}

// TestExpandKeeps: neither the Book, nor the path, nor the wishes are changed, nor what stands behind them.
func TestExpandKeeps(t *testing.T) {
	b := shelved(t)
	told := func() string {
		text := strconv.Itoa(b.Version())
		for _, name := range b.Names() {
			p, v, _ := b.Get(name)
			text += " " + name + strconv.Itoa(v) + " " + strconv.Itoa(p.Kind)
		}
		return text
	}
	before := told()
	path := parts(8)
	l := []api.Wish{wish("c", 1, 3), wish("b", 0, 2), wish("a", 1, 1), wish("b", 0, 4), wish("x", 9, 0)}
	keptPath, kept := slices.Clone(path), slices.Clone(l)
	for parts := range len(path) + 1 {
		for count := range len(l) + 1 {
			Expand(b, path[:parts], l[:count]...)
			if !slices.Equal(path, keptPath) || !slices.Equal(l, kept) || told() != before {
				t.Fatal(path, l, told())
			}
		}
	}
}

// TestExpandShares: what is told is the caller's alone.
func TestExpandShares(t *testing.T) {
	b := shelved(t)
	path := []string{"t"}
	l := []api.Wish{wish("c", 1, 3), wish("b", 0, 2), wish("a", 1, 1)}
	first, _ := Expand(b, path, l...)
	want := slices.Clone(first)
	second, _ := Expand(b, path, l...)
	first = append(first, api.Limit{Key: "behind"})
	for i := range first {
		first[i] = api.Limit{Key: "changed", Policy: small()[3], Cost: 77}
	}
	path[0], l[0] = "changed", wish("a", 0, 99)
	b.Drop("a")
	if !slices.Equal(second, want) || len(second) != 3 {
		t.Fatal(second)
	}
	if behind := second[len(second):cap(second)]; len(behind) > 0 && behind[0] != (api.Limit{}) {
		t.Fatal(behind)
	}
	path[0], l[0] = "t", wish("c", 1, 3)
	lay(t, b, "a", small()[0], 6)
	want[0].Key = "a:6:t:"
	checkLimits(t, "changed", b, path, l, want...)
}

// TestCost is of none, of one, of many, and of such as are too great at the end, or on the way alone.
func TestCost(t *testing.T) {
	checkCost(t, 0, true)
	if n, ok := Cost([]api.Limit{}...); n != 0 || !ok {
		t.Error(n, ok)
	}
	for _, cost := range []int{least, least + 1, -1, 0, 1, 10, api.MaxLimit, most - 1, most} {
		checkCost(t, cost, true, cost)
		checkCost(t, cost, true, cost, 0)
		checkCost(t, cost, true, 0, cost, 0)
	}
	checkCost(t, 6, true, 1, 2, 3)
	checkCost(t, 20*api.MaxLimit, true, slices.Repeat([]int{api.MaxLimit}, 20)...)
	checkCost(t, 5000, true, slices.Repeat([]int{1}, 5000)...)
	checkCost(t, most, true, most-1, 1)
	checkCost(t, most, true, 1, most-1)
	checkCost(t, most, true, 1<<62, 1<<62-1)
	checkCost(t, least, true, least+1, -1)
	checkCost(t, least, true, -1<<62, -1<<62)
	checkCost(t, -1, true, most, least)
	checkCost(t, -1, true, least, most)
	checkCost(t, 0, true, most, -most)
	checkCost(t, most, true, most, -1, 1)
	for _, costs := range [][]int{
		{most, 1}, {1, most}, {most, most}, {1 << 62, 1 << 62}, {1, most - 1, 1}, {most, 0, 1}, {0, most, 0, 1, 0},
		{least, -1}, {-1, least}, {least, least}, {-1 << 62, -1 << 62, -1}, {least, 0, -1},
		// In the end they would not be too great.
		{most, 1, -1}, {1, most, -1}, {most, 1, least}, {most, most, least, least}, {least, -1, 1}, {least, -1, most}, {least, least, most, most, 2},
	} {
		checkCost(t, 0, false, costs...)
	}
}

// TestCostKeeps: the limits are not changed.
func TestCostKeeps(t *testing.T) {
	l := []api.Limit{{Key: "b", Cost: 2}, {Key: "a", Cost: 1}, {Key: "c", Cost: most}}
	kept := slices.Clone(l)
	Cost(l[:2]...)
	Cost(l...)
	if !slices.Equal(l, kept) {
		t.Error(l)
	}
}

func checkSame(t *testing.T, a, b []api.Limit, want bool) {
	t.Helper()
	keptA, keptB := slices.Clone(a), slices.Clone(b)
	if Same(a, b) != want || Same(b, a) != want {
		t.Errorf("Same(%v, %v): %t", a, b, !want)
	}
	if !slices.Equal(a, keptA) || !slices.Equal(b, keptB) {
		t.Errorf("changed: %v, %v", a, b)
	}
}

// TestSame holds rows of limits against such as have others in one place, in one field alone, and against those of another length.
func TestSame(t *testing.T) {
	fields := []func(x *api.Limit){
		func(x *api.Limit) { x.Key += "a" },
		func(x *api.Limit) { x.Key = "" },
		func(x *api.Limit) { x.Key = strings.ToUpper(x.Key) },
		func(x *api.Limit) { x.Policy.Kind++ },
		func(x *api.Limit) { x.Policy.Limit++ },
		func(x *api.Limit) { x.Policy.Period++ },
		func(x *api.Limit) { x.Policy.Burst++ },
		func(x *api.Limit) { x.Policy.Cap++ },
		func(x *api.Limit) { x.Policy.Open = !x.Policy.Open },
		func(x *api.Limit) { x.Cost++ },
		func(x *api.Limit) { x.Cost = -x.Cost },
		func(x *api.Limit) { x.Cost += 1 << 32 },
	}
	var l []api.Limit
	for i, p := range small() {
		checkSame(t, l, slices.Clone(l), true)
		l = append(l, api.Limit{Key: "k" + strconv.Itoa(i) + ":", Policy: p, Cost: i + 1})
		for place := range l {
			for _, change := range fields {
				other := slices.Clone(l)
				change(&other[place])
				checkSame(t, l, other, false)
			}
			checkSame(t, l, l[:place], false)
			checkSame(t, l, slices.Delete(slices.Clone(l), place, place+1), false)
			checkSame(t, l, slices.Insert(slices.Clone(l), place, l[place]), false)
			other := slices.Clone(l)
			other[0], other[place] = other[place], other[0]
			checkSame(t, l, other, place == 0)
		}
		checkSame(t, l, append(slices.Clone(l), api.Limit{}), false)
	}
	checkSame(t, l, l, true)
	checkSame(t, nil, nil, true)
	checkSame(t, nil, []api.Limit{}, true)
	checkSame(t, l[:0], l[4:], true)
	checkSame(t, nil, []api.Limit{{}}, false)
	checkSame(t, []api.Limit{{}}, []api.Limit{{}, {}}, false)
	checkSame(t, []api.Limit{{}}, []api.Limit{{}}, true)
}

package table

import (
	"slices"
	"strconv"
	"testing"
)

const (
	greatest = 1<<63 - 1
	least    = -1 << 63
)

// filled is a table for room keys, with those keys, of the values 1, 2, .., put in their order.
func filled(t *testing.T, room int, keys ...string) *Table {
	t.Helper()
	x := New(room)
	for i, key := range keys {
		if !x.Put(key, i+1) {
			t.Fatalf("Put(%q) into a table for %d, %d are there: false", key, room, i)
		}
	}
	return x
}

// numbered are count keys.
func numbered(count int) []string {
	keys := make([]string, count)
	for i := range keys {
		keys[i] = "k" + strconv.Itoa(i)
	}
	return keys
}

func checkKeys(t *testing.T, when string, x *Table, want ...string) {
	t.Helper()
	if got := x.Keys(); !slices.Equal(got, want) {
		t.Errorf("%s: Keys %q, not %q", when, got, want)
	}
	if got := x.Len(); got != len(want) {
		t.Errorf("%s: Len %d, not %d", when, got, len(want))
	}
	checkWhole(t, x)
}

func checkValue(t *testing.T, when string, x *Table, key string, want int, there bool) {
	t.Helper()
	if got, ok := x.Peek(key); got != want || ok != there {
		t.Errorf("%s: Peek(%q) %d, %t, not %d, %t", when, key, got, ok, want, there)
	}
}

func checkNext(t *testing.T, when string, x *Table, key string, want string, there bool) {
	t.Helper()
	if got, ok := x.Next(key); got != want || ok != there {
		t.Errorf("%s: Next(%q) %q, %t, not %q, %t", when, key, got, ok, want, there)
	}
}

func checkOldest(t *testing.T, when string, x *Table, want string, value int, there bool) {
	t.Helper()
	if got, n, ok := x.Oldest(); got != want || n != value || ok != there {
		t.Errorf("%s: Oldest %q, %d, %t, not %q, %d, %t", when, got, n, ok, want, value, there)
	}
}

// checkEmpty holds x against what is told where there are no keys, by calls that change nothing.
func checkEmpty(t *testing.T, when string, x *Table) {
	t.Helper()
	checkKeys(t, when, x)
	checkOldest(t, when, x, "", 0, false)
	for _, key := range []string{"", "a", "\x00"} {
		checkValue(t, when, x, key, 0, false)
		checkNext(t, when, x, key, "", false)
		if n, ok := x.Get(key); n != 0 || ok {
			t.Errorf("%s: Get(%q) %d, %t", when, key, n, ok)
		}
		if x.Delete(key) {
			t.Errorf("%s: Delete(%q) true", when, key)
		}
	}
	checkKeys(t, when, x)
}

// TestExample is the chapter's.
func TestExample(t *testing.T) {
	x := filled(t, 2, "a", "b")
	if n, ok := x.Get("a"); n != 1 || !ok {
		t.Errorf("Get: %d, %t", n, ok)
	}
	if x.Put("c", 3) {
		t.Error("Put of c: true")
	}
	checkKeys(t, "example", x, "b", "a")
}

func TestRoom(t *testing.T) {
	for _, c := range []struct{ room, want int }{
		{least, 0}, {least + 1, 0}, {-10000, 0}, {-2, 0}, {-1, 0}, {0, 0},
		{1, 1}, {2, 2}, {3, 3}, {4, 4}, {7, 7}, {8, 8}, {9, 9}, {100, 100},
		{9999, 9999}, {10000, 10000}, {10001, 10000}, {20000, 10000}, {1 << 32, 10000}, {1<<32 + 1, 10000}, {greatest, 10000},
	} {
		x := New(c.room)
		checkEmpty(t, "New("+strconv.Itoa(c.room)+")", x)
		keys := numbered(c.want + 2)
		for i, key := range keys {
			if got := x.Put(key, i); got != (i < c.want) {
				t.Fatalf("New(%d): Put, %d are there: %t", c.room, i, got)
			}
		}
		checkKeys(t, "New("+strconv.Itoa(c.room)+"), full", x, keys[:c.want]...)
		for i, key := range keys {
			if n, ok := x.Get(key); ok != (i < c.want) || ok && n != i || !ok && n != 0 {
				t.Fatalf("New(%d): Get(%q): %d, %t", c.room, key, n, ok)
			}
		}
	}
}

func TestPut(t *testing.T) {
	x := filled(t, 3, "a", "b", "c")
	checkKeys(t, "put", x, "a", "b", "c")
	for _, n := range []int{0, 1, -1, least, greatest} {
		if !x.Put("b", n) {
			t.Errorf("Put(b, %d) of a full table: false", n)
		}
		checkValue(t, "put again", x, "b", n, true)
		checkKeys(t, "put again", x, "a", "c", "b")
		if x.Put("d", n) {
			t.Errorf("Put(d, %d) of a full table: true", n)
		}
		checkValue(t, "no room", x, "d", 0, false)
		checkKeys(t, "no room", x, "a", "c", "b")
	}
	checkValue(t, "others", x, "a", 1, true)
	checkValue(t, "others", x, "c", 3, true)
	if !x.Delete("c") || !x.Put("d", 9) || x.Put("c", 9) {
		t.Error("room for one that was deleted")
	}
	checkKeys(t, "room for one", x, "a", "b", "d")
}

// TestPutOrder puts each of three that are there.
func TestPutOrder(t *testing.T) {
	for _, c := range []struct {
		key  string
		want []string
	}{
		{"a", []string{"b", "c", "a"}}, {"b", []string{"a", "c", "b"}}, {"c", []string{"a", "b", "c"}},
	} {
		for _, room := range []int{3, 4} {
			x := filled(t, room, "a", "b", "c")
			if !x.Put(c.key, 7) {
				t.Errorf("Put(%q): false", c.key)
			}
			checkKeys(t, "put "+c.key, x, c.want...)
			checkValue(t, "put "+c.key, x, c.key, 7, true)
		}
	}
}

// TestGet gets the OLDEST, one between, the NEWEST, and one that is missing.
func TestGet(t *testing.T) {
	for _, c := range []struct {
		key   string
		value int
		there bool
		want  []string
	}{
		{"a", 1, true, []string{"b", "c", "a"}},
		{"b", 2, true, []string{"a", "c", "b"}},
		{"c", 3, true, []string{"a", "b", "c"}},
		{"d", 0, false, []string{"a", "b", "c"}},
		{"", 0, false, []string{"a", "b", "c"}},
		{"A", 0, false, []string{"a", "b", "c"}},
		{"a\x00", 0, false, []string{"a", "b", "c"}},
		{"aa", 0, false, []string{"a", "b", "c"}},
	} {
		x := filled(t, 3, "a", "b", "c")
		for range 2 {
			if n, ok := x.Get(c.key); n != c.value || ok != c.there {
				t.Errorf("Get(%q): %d, %t", c.key, n, ok)
			}
			checkKeys(t, "get "+c.key, x, c.want...)
		}
	}
	x := filled(t, 1, "a")
	if n, ok := x.Get("a"); n != 1 || !ok {
		t.Errorf("Get of the only one: %d, %t", n, ok)
	}
	checkKeys(t, "the only one", x, "a")
}

// TestDelete deletes the OLDEST, one between, the NEWEST, and one that is missing; what was deleted is put again.
func TestDelete(t *testing.T) {
	for _, c := range []struct {
		key   string
		there bool
		want  []string
	}{
		{"a", true, []string{"b", "c", "d"}},
		{"b", true, []string{"a", "c", "d"}},
		{"c", true, []string{"a", "b", "d"}},
		{"d", true, []string{"a", "b", "c"}},
		{"e", false, []string{"a", "b", "c", "d"}},
		{"", false, []string{"a", "b", "c", "d"}},
	} {
		x := filled(t, 5, "a", "b", "c", "d")
		if x.Delete(c.key) != c.there || x.Delete(c.key) {
			t.Errorf("Delete(%q)", c.key)
		}
		checkKeys(t, "deleted "+c.key, x, c.want...)
		checkValue(t, "deleted "+c.key, x, c.key, 0, false)
		checkNext(t, "deleted "+c.key, x, c.key, "", false)
		if n, ok := x.Get(c.key); n != 0 || ok {
			t.Errorf("Get(%q), deleted: %d, %t", c.key, n, ok)
		}
		for i, key := range []string{"a", "b", "c", "d"} {
			if key != c.key {
				checkValue(t, "deleted "+c.key, x, key, i+1, true)
			}
		}
		if !x.Put(c.key, 9) {
			t.Errorf("Put(%q) again: false", c.key)
		}
		checkKeys(t, "put again "+c.key, x, append(c.want, c.key)...)
		checkValue(t, "put again "+c.key, x, c.key, 9, true)
	}
}

// TestDeleteAll empties a table from the OLDEST on, and fills it anew.
func TestDeleteAll(t *testing.T) {
	keys := numbered(100)
	x := filled(t, 100, keys...)
	for range 3 {
		for i, key := range keys {
			checkOldest(t, "emptied", x, key, i+1, true)
			if !x.Delete(key) {
				t.Fatalf("Delete(%q): false", key)
			}
			checkKeys(t, "emptied", x, keys[i+1:]...)
		}
		checkEmpty(t, "emptied", x)
		for i, key := range keys {
			if !x.Put(key, i+1) {
				t.Fatalf("Put(%q): false", key)
			}
		}
		checkKeys(t, "filled anew", x, keys...)
	}
}

// TestEverySecond deletes every second one of many: all others are found, and no other one.
func TestEverySecond(t *testing.T) {
	for _, count := range []int{2, 15, 16, 17, 1000, 10000} {
		for first := range 2 {
			keys := numbered(count)
			x := filled(t, count, keys...)
			var rest []string
			for i, key := range keys {
				if i%2 != first {
					rest = append(rest, key)
				} else if !x.Delete(key) {
					t.Fatalf("%d: Delete(%q): false", count, key)
				}
			}
			checkKeys(t, "every second one", x, rest...)
			for i, key := range keys {
				if n, ok := x.Peek(key); ok != (i%2 != first) || ok && n != i+1 {
					t.Fatalf("%d: Peek(%q): %d, %t", count, key, n, ok)
				}
			}
			for i := first; i < count; i += 2 {
				if !x.Put(keys[i], -i) {
					t.Fatalf("%d: Put(%q): false", count, keys[i])
				}
				rest = append(rest, keys[i])
			}
			checkKeys(t, "put again", x, rest...)
		}
	}
}

// TestNoBytes is of the key that has none.
func TestNoBytes(t *testing.T) {
	x := filled(t, 3, "a", "", "b")
	checkKeys(t, "no bytes", x, "a", "", "b")
	checkValue(t, "no bytes", x, "", 2, true)
	checkNext(t, "no bytes", x, "a", "", true)
	checkNext(t, "no bytes", x, "", "b", true)
	if n, ok := x.Get("a"); n != 1 || !ok {
		t.Errorf("Get(a): %d, %t", n, ok)
	}
	checkOldest(t, "no bytes", x, "", 2, true)
	if n, ok := x.Get(""); n != 2 || !ok {
		t.Errorf("Get: %d, %t", n, ok)
	}
	checkKeys(t, "no bytes, got", x, "b", "a", "")
	checkNext(t, "no bytes, got", x, "", "", false)
	if !x.Delete("") || x.Delete("") {
		t.Error("Delete")
	}
	checkKeys(t, "no bytes, deleted", x, "b", "a")
	checkNext(t, "no bytes, deleted", x, "", "", false)
	checkValue(t, "no bytes, deleted", x, "", 0, false)
	only := filled(t, 1, "")
	checkKeys(t, "the only one", only, "")
	checkOldest(t, "the only one", only, "", 1, true)
	checkNext(t, "the only one", only, "", "", false)
}

func TestOldestAndNext(t *testing.T) {
	x := filled(t, 4, "a", "b", "c")
	checkOldest(t, "put", x, "a", 1, true)
	checkNext(t, "put", x, "a", "b", true)
	checkNext(t, "put", x, "b", "c", true)
	checkNext(t, "the NEWEST", x, "c", "", false)
	checkNext(t, "missing", x, "d", "", false)
	checkNext(t, "missing", x, "", "", false)
	x.Get("a")
	checkOldest(t, "got", x, "b", 2, true)
	checkNext(t, "got", x, "c", "a", true)
	checkNext(t, "got", x, "a", "", false)
	x.Put("b", -7)
	checkOldest(t, "put again", x, "c", 3, true)
	checkNext(t, "put again", x, "c", "a", true)
	checkNext(t, "put again", x, "a", "b", true)
	x.Delete("a")
	checkNext(t, "deleted", x, "c", "b", true)
	checkNext(t, "deleted", x, "a", "", false)
	x.Delete("c")
	checkOldest(t, "deleted", x, "b", -7, true)
	checkNext(t, "deleted", x, "b", "", false)
	x.Delete("b")
	checkEmpty(t, "deleted", x)
}

// TestNothingChanges is of the calls that only look.
func TestNothingChanges(t *testing.T) {
	for _, keys := range [][]string{nil, {"a"}, {"a", "b", "c"}, numbered(50)} {
		for _, room := range []int{50, 60} {
			x := filled(t, room, keys...)
			entries, places := slices.Clone(x.entries), slices.Clone(x.places)
			for range 2 {
				for _, key := range append(slices.Clone(keys), "missing", "") {
					x.Peek(key)
					x.Next(key)
				}
				x.Len()
				x.Keys()
				x.Oldest()
			}
			if x.room != room || !slices.Equal(x.entries, entries) || !slices.Equal(x.places, places) {
				t.Errorf("%d keys, room %d: it is another one then", len(keys), room)
			}
			checkKeys(t, "looked", x, keys...)
		}
	}
}

// TestNothingIsMade holds no key: a nil table, one that New did not make, and copies of them.
func TestNothingIsMade(t *testing.T) {
	var none *Table
	var noughts Table
	copied := noughts
	for i, x := range []*Table{none, &noughts, &copied, new(Table)} {
		when := "not made, " + strconv.Itoa(i)
		for range 2 {
			for _, key := range []string{"a", "", "b"} {
				if x.Put(key, 1) {
					t.Errorf("%s: Put(%q): true", when, key)
				}
			}
			checkEmpty(t, when, x)
		}
	}
}

// TestCopied is one table by two names: neither breaks the other.
func TestCopied(t *testing.T) {
	x := filled(t, 20, "a", "b")
	y := *x
	for i, key := range numbered(18) {
		if i%2 == 0 && !x.Put(key, i) || i%2 == 1 && !y.Put(key, i) {
			t.Fatalf("Put(%q): false", key)
		}
	}
	if x.Put("c", 1) || y.Put("c", 1) || !y.Delete("a") || x.Delete("a") {
		t.Error("they are not one")
	}
	checkKeys(t, "one name", x, append([]string{"b"}, numbered(18)...)...)
	checkKeys(t, "the other", &y, append([]string{"b"}, numbered(18)...)...)
}

func TestTwoTables(t *testing.T) {
	x, y := New(2), New(2)
	x.Put("a", 1)
	checkEmpty(t, "the other", y)
	y.Put("b", 2)
	y.Put("a", 3)
	checkKeys(t, "one", x, "a")
	checkKeys(t, "the other", y, "b", "a")
	checkValue(t, "one", x, "a", 1, true)
	checkValue(t, "one", x, "b", 0, false)
	if !x.Delete("a") || !x.Put("c", 4) || !x.Put("d", 5) {
		t.Error("one")
	}
	checkKeys(t, "the other", y, "b", "a")
	checkValue(t, "the other", y, "a", 3, true)
	if y.Get("b"); !y.Delete("a") {
		t.Error("the other")
	}
	checkKeys(t, "one", x, "c", "d")
	checkKeys(t, "the other", y, "b")
}

// TestKeysAreNew writes over what Keys told, and over the room behind it.
func TestKeysAreNew(t *testing.T) {
	for _, count := range []int{0, 1, 3, 20} {
		keys := numbered(count)
		x := filled(t, 20, keys...)
		first, second := x.Keys(), x.Keys()
		for _, l := range [][]string{first[:cap(first)], append(first, "more")} {
			for i := range l {
				l[i] = "other"
			}
		}
		if !slices.Equal(second, keys) {
			t.Errorf("%d: a list told before: %q", count, second)
		}
		checkKeys(t, "written over", x, keys...)
		for i, key := range keys {
			checkValue(t, "written over", x, key, i+1, true)
		}
		x.Put("k0", 9)
		x.Delete("k1")
		if !slices.Equal(second, keys) {
			t.Errorf("%d: a list told before the table changed: %q", count, second)
		}
	}
}

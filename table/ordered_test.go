package table

import (
	"slices"
	"strconv"
	"testing"

	"tapster/hash"
)

// checkWhole looks into a table: is each entry found, are they all in the order, from both its ends, and is nothing kept beside them?
func checkWhole(t *testing.T, x *Table) {
	t.Helper()
	if x == nil || x.ordered == nil {
		return
	}
	count := len(x.entries) - 1
	if count > x.room || 2*len(x.entries) > len(x.places) {
		t.Fatalf("%d entries, room for %d, %d places", count, x.room, len(x.places))
	}
	if end := x.entries[nobody]; end.key != "" || end.sum != 0 || end.value != 0 {
		t.Fatalf("nobody is %v", end)
	}
	seen := make([]bool, count+1)
	seats := 0
	for _, number := range x.places {
		if number == nobody {
			continue
		}
		if number < 0 || number > count || seen[number] {
			t.Fatalf("entry %d of %d stands where none should", number, count)
		}
		seen[number] = true
		seats++
	}
	if seats != count {
		t.Fatalf("%d of %d entries have a place", seats, count)
	}
	for number, e := range x.entries {
		if x.entries[e.older].newer != number || x.entries[e.newer].older != number {
			t.Fatalf("entry %d: nobody ties it back", number)
		}
		if number != nobody && (e.sum != hash.Sum(e.key) || x.number(e.key) != number) {
			t.Fatalf("entry %d, %q: not found", number, e.key)
		}
	}
	steps := 0
	for number := x.entries[nobody].newer; number != nobody && steps <= count; number = x.entries[number].newer {
		steps++
	}
	if steps != count {
		t.Fatalf("%d of %d entries are in the order", steps, count)
	}
	for _, e := range x.entries[len(x.entries):cap(x.entries)] {
		if e != (entry[int]{}) {
			t.Fatalf("%v is kept of one that is gone", e)
		}
	}
}

// sharing are count keys whose searches all begin at one place, where there are so many places (or fewer: at what that place leaves by these).
func sharing(place, places, count int) []string {
	o := newOrdered[int](most)
	o.places = make([]int, places)
	var keys []string
	for i := 0; len(keys) < count; i++ {
		if key := strconv.Itoa(i); o.home(hash.Sum(key)) == place {
			keys = append(keys, key)
		}
	}
	return keys
}

// orders are all orders of 0 to count-1.
func orders(count int) [][]int {
	if count == 0 {
		return [][]int{nil}
	}
	var all [][]int
	for _, l := range orders(count - 1) {
		for at := range count {
			all = append(all, slices.Insert(slices.Clone(l), at, count-1))
		}
	}
	return all
}

// TestSharedPlaces puts keys whose sums share a place, and such as begin at the places behind it, and deletes them in each order; at the last place the search goes on at the first.
func TestSharedPlaces(t *testing.T) {
	for place := range few {
		one, two, three := sharing(place, few, 3), sharing((place+1)%few, few, 2), sharing((place+2)%few, few, 1)
		for _, keys := range [][]string{
			one,
			{one[0], one[1], two[0]},
			{one[0], two[0], one[1]},
			{two[0], one[0], one[1]},
			{one[0], two[0], three[0]},
			{one[0], three[0], one[1]},
			{two[0], two[1], one[0]},
			{three[0], one[0], one[1]},
		} {
			for _, order := range orders(len(keys)) {
				x := filled(t, 3, keys...)
				rest := slices.Clone(keys)
				for _, i := range order {
					if !x.Delete(keys[i]) || x.Delete(keys[i]) {
						t.Fatalf("%q: Delete(%q)", keys, keys[i])
					}
					rest = slices.DeleteFunc(rest, func(key string) bool { return key == keys[i] })
					checkKeys(t, "shared places", x, rest...)
					for n, key := range keys {
						if got, ok := x.Peek(key); ok != slices.Contains(rest, key) || ok && got != n+1 {
							t.Fatalf("%q, deleted %q: Peek(%q): %d, %t", keys, keys[i], key, got, ok)
						}
					}
				}
			}
		}
	}
}

// TestManyShareAPlace is of hundreds of keys whose sums share a place, however many places there are.
func TestManyShareAPlace(t *testing.T) {
	const places, count = 1024, 300
	for _, place := range []int{0, 511, places - 1} {
		keys := sharing(place, places, count)
		x := filled(t, count, keys...)
		checkKeys(t, "put", x, keys...)
		if len(x.places) != places {
			t.Fatalf("%d places", len(x.places))
		}
		if x.Put("more", 1) {
			t.Error("Put of one more: true")
		}
		var rest []string
		for i, key := range keys {
			if i%3 == 1 {
				rest = append(rest, key)
			} else if !x.Delete(key) {
				t.Fatalf("Delete(%q): false", key)
			}
		}
		checkKeys(t, "two of three deleted", x, rest...)
		for i, key := range keys {
			if n, ok := x.Get(key); ok != (i%3 == 1) || ok && n != i+1 {
				t.Fatalf("Get(%q): %d, %t", key, n, ok)
			}
		}
		for _, key := range slices.Backward(keys) {
			if !x.Put(key, -1) {
				t.Fatalf("Put(%q): false", key)
			}
		}
		slices.Reverse(keys)
		checkKeys(t, "put again", x, keys...)
	}
}

// oneSum are pairs of keys that differ, and have the same sum.
func oneSum() [][]string {
	return [][]string{{"8yn0iYCKYHlIj4-BwPqk", "GReLUrM4wMqfg9yzV3KQ"}, {"gMPflVXtwGDXbIhP73TX", "LtHf1prlU1bCeYZEdqWf"}}
}

// TestOneSum puts keys that nothing but their bytes tells apart.
func TestOneSum(t *testing.T) {
	for _, pair := range oneSum() {
		if hash.Sum(pair[0]) != hash.Sum(pair[1]) {
			t.Fatalf("%q have two sums", pair)
		}
		for _, order := range orders(2) {
			one, other := pair[order[0]], pair[order[1]]
			x := filled(t, 1, one)
			checkValue(t, "one of a sum", x, other, 0, false)
			checkNext(t, "one of a sum", x, other, "", false)
			if x.Put(other, 2) || x.Delete(other) {
				t.Errorf("%q is taken for %q", other, one)
			}
			checkKeys(t, "one of a sum", x, one)
			x = filled(t, 2, one, other)
			checkKeys(t, "two of a sum", x, one, other)
			checkValue(t, "two of a sum", x, one, 1, true)
			checkValue(t, "two of a sum", x, other, 2, true)
			if !x.Delete(one) {
				t.Errorf("Delete(%q): false", one)
			}
			checkValue(t, "one of two of a sum", x, one, 0, false)
			checkValue(t, "one of two of a sum", x, other, 2, true)
			checkKeys(t, "one of two of a sum", x, other)
		}
	}
}

// TestShardsSpread fills a table with keys of one shard alone: searches stay short, so that what many keys cost is no more than of others.
func TestShardsSpread(t *testing.T) {
	for _, shards := range []int{1, 2, 3, 10, 48, 63, 64} {
		x := New(most)
		for i := 0; x.Len() < 5000; i++ {
			if key := hash.Key("user", strconv.Itoa(i)); hash.Shard(key, shards) == 0 {
				x.Put(key, i)
			}
		}
		checkWhole(t, x)
		steps := 0
		for place, number := range x.places {
			if number != nobody {
				steps += x.way(x.home(x.entries[number].sum), place)
			}
		}
		if steps > 5000 {
			t.Errorf("%d shards: searches go on by %d places in all", shards, steps)
		}
	}
}

// TestOtherValues is the generic type of values that are no integers.
func TestOtherValues(t *testing.T) {
	o := newOrdered[[]string](2)
	if !o.put("a", []string{"x"}) || !o.put("b", nil) || o.put("c", []string{"z"}) {
		t.Error("put")
	}
	if l, ok := o.get("a"); !ok || !slices.Equal(l, []string{"x"}) {
		t.Errorf("get: %q, %t", l, ok)
	}
	if l, ok := o.peek("c"); ok || l != nil {
		t.Errorf("peek: %q, %t", l, ok)
	}
	var keys []string
	for key, l := range o.all() {
		if keys = append(keys, key); key == "a" && len(l) != 1 {
			t.Errorf("all: %q", l)
		}
	}
	if !slices.Equal(keys, []string{"b", "a"}) {
		t.Errorf("all: %q", keys)
	}
}

package machine

import (
	"hash/fnv"
	"math"
	"reflect"
	"slices"
	"strconv"
	"strings"
	"testing"

	"tapster/api"
)

const (
	most  = math.MaxInt
	least = math.MinInt
	late  = 1 << 53
)

// edges are times at which a clip goes wrong, or just doesn't, rising.
func edges() []int {
	return []int{least, least + 1, -1 << 53, -5, -1, 0, 1, 2, 1 << 32, late - 1, late, late + 1, 1 << 62, most - 1, most}
}

// args are the words of a line.
func args(line string) []string {
	return strings.Fields(line)
}

// said is a Reply as a text: what its Kind has, behind a mark for that; all that it has not is nothing.
func said(t testing.TB, r api.Reply) string {
	t.Helper()
	has := api.Reply{Kind: r.Kind}
	text := ""
	switch r.Kind {
	case api.Simple:
		has.Text, text = r.Text, "+"+r.Text
	case api.Error:
		has.Text, text = r.Text, "-"+r.Text
	case api.Int:
		has.N, text = r.N, ":"+strconv.Itoa(r.N)
	case api.Null:
		text = "none"
	case api.List:
		has.L, text = r.L, strings.Join(r.L, ", ")
	}
	if text == "" || r.Text != has.Text || r.N != has.N || len(r.L) != len(has.L) {
		t.Fatalf("a reply that may not be: %+v", r)
	}
	return text
}

func checkDo(t testing.TB, m *Machine, now int, line, want string) {
	t.Helper()
	if got := said(t, m.Do(now, args(line)...)); got != want {
		t.Fatalf("%q at %d: %s, not %s", line, now, got, want)
	}
}

// checkTrial does what checkDo does to a copy.
func checkTrial(t testing.TB, m *Machine, now int, line, want string) {
	t.Helper()
	checkDo(t, m.Copy(), now, line, want)
}

// step is a line, when, and what is said of it.
type step struct {
	now        int
	line, want string
}

func checkSteps(t testing.TB, m *Machine, l ...step) {
	t.Helper()
	for _, x := range l {
		checkDo(t, m, x.now, x.line, x.want)
	}
}

// checkSame holds that there is the same in both. What copies tell of each other is left to the tests of Copy.
func checkSame(t testing.TB, when string, a, b *Machine) {
	t.Helper()
	if a.clock != b.clock || a.counts != b.counts {
		t.Fatalf("%s: %d, %v, and %d, %v", when, a.clock, a.counts, b.clock, b.counts)
	}
	if !reflect.DeepEqual(a.store.Copy(), b.store.Copy()) {
		t.Fatalf("%s: other stores: %d, %v, and %d, %v", when, a.store.Len(), a.store.Held(), b.store.Len(), b.store.Held())
	}
	if !reflect.DeepEqual(a.vars.Copy(), b.vars.Copy()) {
		t.Fatalf("%s: other numbers: %q, %q", when, a.vars.Keys(a.clock), b.vars.Keys(b.clock))
	}
	if !reflect.DeepEqual(a.book.Copy(), b.book.Copy()) {
		t.Fatalf("%s: other policies: %q, %q", when, a.book.Names(), b.book.Names())
	}
}

// checkOther holds that there is not the same in both.
func checkOther(t testing.TB, when string, a, b *Machine) {
	t.Helper()
	if a.clock == b.clock && a.counts == b.counts && reflect.DeepEqual(a.store.Copy(), b.store.Copy()) &&
		reflect.DeepEqual(a.vars.Copy(), b.vars.Copy()) && reflect.DeepEqual(a.book.Copy(), b.book.Copy()) {
		t.Fatalf("%s: nothing is another", when)
	}
}

// stats are the numbers that STATS tells, without the words.
func stats(t testing.TB, m *Machine, now int) [8]int {
	t.Helper()
	r := m.Do(now, "STATS")
	words := []string{"clock", "policies", "cells", "held", "numbers", "granted", "denied", "unavailable"}
	if r.Kind != api.List || len(r.L) != len(words) {
		t.Fatalf("no stats: %+v", r)
	}
	var l [8]int
	for i, text := range r.L {
		word, number, _ := strings.Cut(text, " ")
		n, err := strconv.Atoi(number)
		if err != nil || text != words[i]+" "+strconv.Itoa(n) {
			t.Fatalf("%q, not %s", text, words[i])
		}
		_, l[i] = word, n
	}
	return l
}

func checkStats(t testing.TB, m *Machine, now int, want ...int) {
	t.Helper()
	if got := stats(t, m, now); !slices.Equal(got[:], want) {
		t.Fatalf("at %d: %v, not %v", now, got, want)
	}
}

// keyOf is the key of parts that have neither `:` nor `\`.
func keyOf(name string, version int, parts ...string) string {
	key := name + ":" + strconv.Itoa(version) + ":"
	for _, part := range parts {
		key += part + ":"
	}
	return key
}

// shardOf is where a key belongs.
func shardOf(key string, shards int) int {
	h := fnv.New64a()
	h.Write([]byte(key))
	return int(h.Sum64() % uint64(shards))
}

// apart are path parts whose keys, of policy name by that version, belong to the shards from 0 on, in order.
func apart(name string, version, shards int) []string {
	l := make([]string, shards)
	for i, found := 0, 0; found < shards; i++ {
		part := "k" + strconv.Itoa(i)
		if shard := shardOf(keyOf(name, version, part), shards); l[shard] == "" {
			l[shard] = part
			found++
		}
	}
	return l
}

// limited are lines that lay a policy of each Kind, by the names b, g, l and c, in this order, from version 1 on: 5 at once, and what was taken first is free 100 later at the latest.
func limited() []step {
	return []step{
		{0, "POLICY b 1 5 100 5 0 0", ":1"},
		{0, "POLICY g 2 5 100 5 0 0", ":2"},
		{0, "POLICY l 3 5 100 0 9 0", ":3"},
		{0, "POLICY c 4 5 100 0 0 0", ":4"},
	}
}

// begun is a Machine in which something of all is there: policies, of which one was laid twice, states of keys, what is held (IDs 1 to 4, of which 2 was cancelled), and numbers.
func begun(t testing.TB) *Machine {
	t.Helper()
	m := New(4, 10, 5)
	checkSteps(t, m, limited()...)
	checkSteps(t, m,
		step{1, "POLICY o 4 3 1000 0 0 1", ":5"},
		step{1, "POLICY o 4 4 1000 0 0 1", ":6"},
		step{2, "TAKE x/y b:1:2 g:2:1 o:0:1", "+OK"},
		step{3, "RESERVE 50 x b:1:1 l:0:2", ":1"},
		step{3, "RESERVE 60 x c:1:1", ":2"},
		step{4, "RESERVE 70 x/y/z c:1:2 o:3:1", ":3"},
		step{5, "CANCEL 2", "+OK"},
		step{5, "RESERVE 80 z g:1:4", ":4"},
		step{6, "TAKE x l:0:9", "-DENIED -1"},
		step{7, "SET n 5", "+OK"},
		step{7, "SET m -7", "+OK"},
		step{8, "EXPIRE m 30", ":1"})
	return m
}

// TestBegun holds what the other tests start from.
func TestBegun(t *testing.T) {
	m := begun(t)
	if m.Now() != 8 || len(m.Held()) != 3 {
		t.Fatal(m.Now(), m.Held())
	}
	checkStats(t, m, 8, 8, 5, 7, 3, 2, 5, 1, 0)
}

// lines are commands of each name that a begun Machine does, each of which tells something else.
func lines() []string {
	return []string{
		"PING", "STATS",
		"POLICY n 1 5 100 5 0 0", "POLICY b 1 5 100 5 0 0", "POLICY b 1 5 100 6 0 0", "POLICY n 9 5 100 5 0 0",
		"DROP b", "DROP n",
		"TAKE x/y b:2:5 g:0:1", "TAKE x b:1:2 l:1:1", "TAKE x b:1:3", "TAKE x c:1:6", "TAKE x n:1:1", "TAKE x b:2:1", "TAKE x b:0:1048576 b:0:1",
		"PEEK x/y b:2:5 g:0:1", "PEEK x b:1:2 l:1:1", "PEEK x b:1:3", "PEEK x c:1:6", "PEEK x n:1:1", "PEEK x b:2:1",
		"RESERVE 5 x/y b:2:5 g:0:1", "RESERVE 0 x b:1:2 l:1:1", "RESERVE 9007199254740992 x b:1:1", "RESERVE 5 x b:1:3", "RESERVE 5 x c:1:6", "RESERVE 5 x n:1:1",
		"COMMIT 1", "COMMIT 3 1", "COMMIT 4 0", "COMMIT 1 9", "COMMIT 2", "COMMIT 5 1",
		"CANCEL 1", "CANCEL 3", "CANCEL 2", "CANCEL 9",
		"SET n 9", "SET o 9", "GET n", "GET m", "GET o", "INCRBY n 2", "INCRBY m -2", "INCRBY o 3", "INCRBY n 9223372036854775807",
		"DEL n", "DEL o", "EXPIRE n 9", "EXPIRE n 0", "EXPIRE o 9", "TTL n", "TTL m", "TTL o",
		"FOO", "GET", "SET n x",
	}
}

func TestExample(t *testing.T) {
	for _, shards := range []int{0, 1, 64} {
		checkSteps(t, New(shards, 1, 0),
			step{0, "POLICY p 4 5 10 0 0 0", ":1"},
			step{0, "TAKE - p:0:5", "+OK"},
			step{3, "TAKE - p:0:1", "-DENIED 7"},
			step{9, "TAKE - p:0:1", "-DENIED 1"},
			step{10, "TAKE - p:0:1", "+OK"})
	}
}

// TestNew: without policies, numbers, or what is held, at 0, and nothing is counted.
func TestNew(t *testing.T) {
	for _, shards := range []int{least, -1, 0, 1, 64, 65, most} {
		for _, room := range []int{least, 0, 1, most} {
			for _, numbers := range []int{least, 0, 1, most} {
				m := New(shards, room, numbers)
				if m.Now() != 0 || len(m.Held()) != 0 {
					t.Fatal(m.Now(), m.Held())
				}
				checkTrial(t, m, 0, "GET k", "none")
				checkTrial(t, m, 0, "TTL k", ":-2")
				checkTrial(t, m, 0, "DROP p", ":0")
				checkTrial(t, m, 0, "TAKE - p:0:1", "-ERR 4")
				checkTrial(t, m, 0, "CANCEL 1", "-ERR 4")
				checkTrial(t, m, 0, "POLICY p 1 1 1 1 0 0", ":1")
				checkDo(t, m, 0, "STATS", "clock 0, policies 0, cells 0, held 0, numbers 0, granted 0, denied 0, unavailable 0")
			}
		}
	}
}

// TestShards: of none, and of fewer, there is one; of more than MaxShards so many.
func TestShards(t *testing.T) {
	for _, shards := range []int{least, -1, 0, 1, 2, 3, 10, 63, 64, 65, most} {
		m := New(shards, 1, 0)
		checkDo(t, m, 0, "POLICY p 4 1 10 0 0 0", ":1")
		count := min(max(shards, 1), 64)
		told := map[int]bool{}
		for i := range 1000 {
			part := "k" + strconv.Itoa(i)
			l := m.Touches("TAKE", part, "p:1:1")
			if len(l) != 1 || l[0] != shardOf(keyOf("p", 1, part), count) {
				t.Fatalf("%d shards: %s in %v", shards, part, l)
			}
			told[l[0]] = true
		}
		if len(told) != count {
			t.Fatalf("%d shards: %d are told", shards, len(told))
		}
		// Each shard has room of its own.
		for _, part := range apart("p", 1, count) {
			checkDo(t, m, 0, "TAKE "+part+" p:1:1", "+OK")
		}
		checkDo(t, m, 0, "TAKE one/more p:2:1", "-UNAVAILABLE")
		checkStats(t, m, 0, 0, 1, count, 0, 0, count, 0, 1)
	}
}

// TestRoom: for nothing, for less, for one, and for as many as may be.
func TestRoom(t *testing.T) {
	for _, room := range []int{least, -1, 0, 1, 2, 9999, most} {
		m := New(1, room, 0)
		checkSteps(t, m, limited()...)
		checkDo(t, m, 0, "POLICY o 4 5 100 0 0 1", ":5")
		count := min(max(room, 0), 10000)
		for i := range count {
			checkDo(t, m, 0, "TAKE k"+strconv.Itoa(i)+" c:1:1", "+OK")
		}
		for _, wish := range []string{" b:0:1", " g:0:1", " l:1:5", " c:0:2", " o:1:1", " o:0:1 c:1:1"} {
			checkTrial(t, m, 0, "TAKE k"+wish, "-UNAVAILABLE")
			checkTrial(t, m, 0, "RESERVE 9 k"+wish, "-UNAVAILABLE")
			// PEEK does not ask for room.
			checkTrial(t, m, 0, "PEEK k"+wish, "+OK")
			checkTrial(t, m, 0, "TAKE k c:1:6"+wish, "-DENIED -1")
		}
		if count > 0 {
			checkTrial(t, m, 0, "TAKE k0 c:1:4", "+OK")
			checkTrial(t, m, 100, "TAKE k c:1:1", "+OK")
		}
		checkStats(t, m, 0, 0, 5, count, 0, 0, count, 0, 0)
	}
}

// TestOpen: what is kept by a policy that is open makes room, but not what is held, and what other policies keep does not.
func TestOpen(t *testing.T) {
	m := New(1, 1, 0)
	checkSteps(t, m,
		step{0, "POLICY o 4 5 100 0 0 1", ":1"},
		step{0, "POLICY c 4 5 100 0 0 0", ":2"},
		step{0, "TAKE x o:1:5", "+OK"},
		step{0, "TAKE x o:1:1", "-DENIED 100"},
		step{0, "TAKE y o:1:1", "+OK"},
		step{0, "TAKE x o:1:5", "+OK"},
		step{0, "RESERVE 9 y o:1:1", ":1"},
		step{0, "TAKE x o:1:5", "-UNAVAILABLE"},
		step{9, "TAKE x o:1:5", "+OK"},
		step{9, "TAKE x c:1:5", "+OK"},
		step{9, "TAKE x o:1:1", "-UNAVAILABLE"},
		step{100, "TAKE x o:1:1", "+OK"})
}

func TestPing(t *testing.T) {
	for _, m := range []*Machine{New(0, 0, 0), begun(t)} {
		before := m.Copy()
		checkDo(t, m, 0, "PING", "+PONG")
		checkDo(t, m, 0, "ping", "+PONG")
		checkSame(t, "PING", m, before)
	}
}

// TestSmallLetters: whichever letters of a name are great, the same is done.
func TestSmallLetters(t *testing.T) {
	m := begun(t)
	for _, line := range lines() {
		l := args(line)
		a := m.Copy()
		want := said(t, a.Do(9, l...))
		touched := m.Touches(l...)
		for _, name := range []string{strings.ToLower(l[0]), l[0][:1] + strings.ToLower(l[0][1:]), strings.ToLower(l[0][:2]) + l[0][2:]} {
			b, other := m.Copy(), append([]string{name}, l[1:]...)
			if got := said(t, b.Do(9, other...)); got != want {
				t.Fatalf("%q: %s, not %s", other, got, want)
			}
			checkSame(t, name, a, b)
			if got := m.Touches(other...); !slices.Equal(got, touched) {
				t.Fatalf("%q: %v, not %v", other, got, touched)
			}
		}
	}
}

// wrong are lists of arguments of which Parse tells an error, and which.
func wrong() map[string]int {
	long := strings.Repeat("n", 41)
	return map[string]int{
		"": 10, "FOO": 10, "PINGS": 10, "PIN": 10, "ＰING": 10, "TAKE: - b:0:1": 10, "OK": 10, "MULTI": 10,
		"PING x": 11, "STATS x": 11, "DROP": 11, "DROP b x": 11, "POLICY b": 11, "POLICY b 1 1 1 1 0": 11, "POLICY b 1 1 1 1 0 0 0": 11,
		"TAKE": 11, "TAKE -": 11, "PEEK": 11, "PEEK x": 11, "RESERVE": 11, "RESERVE 5": 11, "RESERVE 5 x": 11,
		"COMMIT": 11, "COMMIT 1 1 1": 11, "CANCEL": 11, "CANCEL 1 1": 11,
		"SET": 11, "SET n": 11, "SET n 1 1": 11, "GET": 11, "GET n n": 11, "INCRBY n": 11, "DEL": 11, "DEL n m": 11, "EXPIRE n": 11, "EXPIRE n 5 5": 11, "TTL": 11, "TTL n 5": 11,
		"DROP b:0": 2, "DROP " + long: 2, "POLICY b/ 1 1 1 1 0 0": 2, "POLICY " + long + " 1 1 1 1 0 0": 2,
		"POLICY b 0 5 100 5 0 0": 2, "POLICY b 5 5 100 5 0 0": 2, "POLICY b 1 0 100 5 0 0": 2, "POLICY b 1 1048577 100 5 0 0": 2, "POLICY b 1 5 0 5 0 0": 2, "POLICY b 1 5 1099511627777 5 0 0": 2,
		"POLICY b 1 5 100 0 0 0": 2, "POLICY b 1 5 100 5 1 0": 2, "POLICY b 1 5 100 5 0 2": 2, "POLICY b 2 5 100 1048577 0 0": 2, "POLICY b 3 5 100 0 0 0": 2, "POLICY b 3 5 100 0 101 0": 2, "POLICY b 3 5 100 1 9 0": 2,
		"POLICY b 4 5 100 1 0 0": 2, "POLICY b 4 5 100 0 1 0": 2, "POLICY b 1 05 100 5 0 0": 2, "POLICY b 1 -5 100 5 0 0": 2, "POLICY b 1 x 100 5 0 0": 2,
		"TAKE x b": 2, "TAKE x b:1": 2, "TAKE x b:1:0": 2, "TAKE x b:1:-1": 2, "TAKE x b:1:1048577": 2, "TAKE x b:9:1": 2, "TAKE x b:-1:1": 2, "TAKE x b:1:1:1": 2, "TAKE x :1:1": 2, "TAKE x b:1:1 b": 2,
		"TAKE / b:0:1": 2, "TAKE x//y b:0:1": 2, "TAKE x/ b:0:1": 2, "TAKE /x b:0:1": 2, "PEEK x b:01:1": 2, "PEEK x b:1:+1": 2,
		"RESERVE -1 x b:1:1": 2, "RESERVE 9007199254740993 x b:1:1": 2, "RESERVE x 5 b:1:1": 2, "RESERVE 5 x b:1:0": 2,
		"TAKE 1/2/3/4/5/6/7/8/9 b:0:1": 3, "TAKE " + strings.Repeat("x", 101) + " b:0:1": 3, "PEEK x" + strings.Repeat(" b:0:1", 21): 3, "RESERVE 5 x" + strings.Repeat(" b:0:1", 21): 3,
		"COMMIT 0": 2, "COMMIT -1": 2, "COMMIT 9007199254740993": 2, "COMMIT x": 2, "COMMIT 1 -1": 2, "COMMIT 1 1048577": 2, "COMMIT 1 x": 2, "COMMIT 01": 2, "CANCEL 0": 2, "CANCEL x": 2, "CANCEL 9007199254740993": 2,
		"SET n x": 2, "SET n 01": 2, "SET n 9223372036854775808": 2, "SET n -9223372036854775809": 2, "SET n -0": 2, "SET n +1": 2, "SET n 1.5": 2, "INCRBY n x": 2, "INCRBY n 9223372036854775808": 2,
		"SET " + strings.Repeat("n", 101) + " 1": 2, "GET " + strings.Repeat("n", 101): 2, "DEL " + strings.Repeat("n", 101): 2, "TTL " + strings.Repeat("n", 101): 2, "EXPIRE " + strings.Repeat("n", 101) + " 1": 2,
		"EXPIRE n -1": 2, "EXPIRE n 9007199254740993": 2, "EXPIRE n x": 2,
	}
}

// TestWrong: what is wrong is told, and changes nothing but the clock.
func TestWrong(t *testing.T) {
	m := begun(t)
	for line, errno := range wrong() {
		for _, now := range []int{least, 0, 8, 9, 40, 1000, late, most} {
			a, b := m.Copy(), m.Copy()
			checkDo(t, a, now, line, "-ERR "+strconv.Itoa(errno))
			b.clock = min(max(now, 8), late)
			checkSame(t, line, a, b)
			if l := m.Touches(args(line)...); len(l) != 0 {
				t.Fatalf("%q: %v", line, l)
			}
		}
	}
	for _, l := range [][]string{{}, nil, {""}, {"", "PING"}, {" PING"}, {"PING "}, {"PING", ""}, {"GET", ""}, {"TAKE", "", "b:0:1"}, {"TAKE", "-", ""}, {"SET", "n", ""}, {"\xff"}, {strings.Repeat("PING", 100000)}, slices.Repeat([]string{"PING"}, 100000), slices.Repeat([]string{"TAKE"}, 100000)} {
		a, b := m.Copy(), m.Copy()
		if got := said(t, a.Do(8, l...)); !strings.HasPrefix(got, "-ERR ") {
			t.Fatalf("%.100q: %s", l, got)
		}
		checkSame(t, "wrong", a, b)
		if l := m.Touches(l...); len(l) != 0 {
			t.Fatal(l)
		}
	}
}

// TestStats tells each of the eight behind each command.
func TestStats(t *testing.T) {
	m := New(4, 2, 1)
	for _, x := range []struct {
		step
		want [8]int
	}{
		{step{0, "PING", "+PONG"}, [8]int{}},
		{step{1, "POLICY p 4 5 100 0 0 0", ":1"}, [8]int{1, 1}},
		{step{1, "POLICY p 4 6 100 0 0 0", ":2"}, [8]int{1, 1}},
		{step{1, "POLICY q 4 5 100 0 0 0", ":3"}, [8]int{1, 2}},
		{step{2, "DROP q", ":1"}, [8]int{2, 1}},
		{step{2, "DROP q", ":0"}, [8]int{2, 1}},
		{step{2, "TAKE x p:1:2 p:0:2", "+OK"}, [8]int{2, 1, 2, 0, 0, 1}},
		{step{3, "TAKE x p:1:5", "-DENIED 97"}, [8]int{3, 1, 2, 0, 0, 1, 1}},
		{step{3, "TAKE x p:1:7", "-DENIED -1"}, [8]int{3, 1, 2, 0, 0, 1, 2}},
		{step{3, "PEEK x p:1:5", "-DENIED 97"}, [8]int{3, 1, 2, 0, 0, 1, 2}},
		{step{3, "PEEK x p:1:4", "+OK"}, [8]int{3, 1, 2, 0, 0, 1, 2}},
		{step{3, "TAKE x q:1:1", "-ERR 4"}, [8]int{3, 1, 2, 0, 0, 1, 2}},
		{step{3, "TAKE x p:2:1", "-ERR 2"}, [8]int{3, 1, 2, 0, 0, 1, 2}},
		{step{4, "RESERVE 10 x p:1:1", ":1"}, [8]int{4, 1, 2, 1, 0, 2, 2}},
		{step{4, "RESERVE 10 x p:1:6", "-DENIED -1"}, [8]int{4, 1, 2, 1, 0, 2, 3}},
		{step{4, "RESERVE 10 x q:1:4", "-ERR 4"}, [8]int{4, 1, 2, 1, 0, 2, 3}},
		{step{4, "RESERVE 1 x p:1:1 p:0:1", ":2"}, [8]int{4, 1, 2, 2, 0, 3, 3}},
		{step{4, "RESERVE 2 x p:1:1", ":3"}, [8]int{4, 1, 2, 3, 0, 4, 3}},
		{step{4, "CANCEL 3", "+OK"}, [8]int{4, 1, 2, 2, 0, 4, 3}},
		{step{4, "CANCEL 3", "-ERR 4"}, [8]int{4, 1, 2, 2, 0, 4, 3}},
		{step{4, "COMMIT 2", "+OK"}, [8]int{4, 1, 2, 1, 0, 4, 3}},
		{step{5, "SET k 5", "+OK"}, [8]int{5, 1, 2, 1, 1, 4, 3}},
		{step{5, "SET l 5", "-ERR 5"}, [8]int{5, 1, 2, 1, 1, 4, 3}},
		{step{5, "INCRBY k 5", ":10"}, [8]int{5, 1, 2, 1, 1, 4, 3}},
		{step{5, "GET k", ":10"}, [8]int{5, 1, 2, 1, 1, 4, 3}},
		{step{5, "EXPIRE k 2", ":1"}, [8]int{5, 1, 2, 1, 1, 4, 3}},
		{step{6, "TTL k", ":1"}, [8]int{6, 1, 2, 1, 1, 4, 3}},
		{step{7, "PING", "+PONG"}, [8]int{7, 1, 2, 1, 0, 4, 3}},
		{step{7, "FOO", "-ERR 10"}, [8]int{7, 1, 2, 1, 0, 4, 3}},
		{step{7, "INCRBY l 5", ":5"}, [8]int{7, 1, 2, 1, 1, 4, 3}},
		{step{7, "DEL l", ":1"}, [8]int{7, 1, 2, 1, 0, 4, 3}},
		{step{0, "PING", "+PONG"}, [8]int{7, 1, 2, 1, 0, 4, 3}},
		{step{13, "PING", "+PONG"}, [8]int{13, 1, 2, 1, 0, 4, 3}},
		{step{14, "PING", "+PONG"}, [8]int{14, 1, 2, 0, 0, 4, 3}},
		{step{late + 1, "FOO", "-ERR 10"}, [8]int{late, 1, 2, 0, 0, 4, 3}},
	} {
		checkDo(t, m, x.now, x.line, x.step.want)
		// STATS itself changes nothing else, at whatever time it is asked.
		checkStats(t, m.Copy(), x.now, x.want[:]...)
		checkStats(t, m.Copy(), least, x.want[:]...)
	}
	checkDo(t, m, 0, "STATS", "clock 9007199254740992, policies 1, cells 2, held 0, numbers 0, granted 4, denied 3, unavailable 0")
}

// TestStatsOfUnavailable: what has no room is counted of TAKE and RESERVE, each once, and PEEK has none.
func TestStatsOfUnavailable(t *testing.T) {
	m := New(2, 0, 0)
	checkSteps(t, m, limited()...)
	for i := range 5 {
		checkStats(t, m.Copy(), 0, 0, 4, 0, 0, 0, 0, 0, 2*i)
		checkDo(t, m, 0, "TAKE x b:0:1 c:1:1", "-UNAVAILABLE")
		checkDo(t, m, 0, "PEEK x b:0:1 c:1:1", "+OK")
		checkStats(t, m.Copy(), 0, 0, 4, 0, 0, 0, 0, 0, 2*i+1)
		checkDo(t, m, 0, "RESERVE 5 x l:0:1", "-UNAVAILABLE")
	}
}

// TestStatsExpire: what is due comes back, and what it comes back to may be as new.
func TestStatsExpire(t *testing.T) {
	for _, name := range []string{"b", "g", "l", "c"} {
		m := New(3, 9, 0)
		checkSteps(t, m, limited()...)
		checkSteps(t, m,
			step{0, "RESERVE 10 x " + name + ":1:5", ":1"},
			step{0, "RESERVE 20 y " + name + ":1:5", ":2"})
		checkStats(t, m, 9, 9, 4, 2, 2, 0, 2, 0, 0)
		checkStats(t, m, 10, 10, 4, 1, 1, 0, 2, 0, 0)
		checkTrial(t, m, 10, "COMMIT 1", "-ERR 4")
		checkStats(t, m, 19, 19, 4, 1, 1, 0, 2, 0, 0)
		checkStats(t, m, most, late, 4, 0, 0, 0, 2, 0, 0)
	}
}

// TestClock: it goes on, stands still, and never goes back; and what is done is done at it.
func TestClock(t *testing.T) {
	for _, line := range lines() {
		m := begun(t)
		clock := 8
		for _, now := range []int{8, 7, 0, -1, least, 9, 9, 8, 1000, 999, late - 1, 0, late, late - 1, late + 1, least, most} {
			m.Do(now, args(line)...)
			clock = min(max(clock, now), late)
			if m.Now() != clock {
				t.Fatalf("%q at %d: %d, not %d", line, now, m.Now(), clock)
			}
		}
		for _, now := range edges() {
			m = New(1, 1, 1)
			m.Do(now, args(line)...)
			if want := min(max(now, 0), late); m.Now() != want {
				t.Fatalf("%q at %d: %d, not %d", line, now, m.Now(), want)
			}
		}
	}
}

// TestPast: at a time that is past the same is told, and done, as if the clock had stood still.
func TestPast(t *testing.T) {
	for _, clock := range []int{8, 37, 38, 52, 53, 60, 200, late} {
		m := begun(t)
		checkDo(t, m, clock, "PING", "+PONG")
		for _, line := range lines() {
			still := m.Copy()
			want := said(t, still.Do(clock, args(line)...))
			for _, now := range []int{least, -1, 0, 1, clock - 1, clock} {
				back := m.Copy()
				checkDo(t, back, now, line, want)
				checkSame(t, line, back, still)
			}
		}
	}
}

// TestEarliest: a clock that tells of times below 0 stands at 0.
func TestEarliest(t *testing.T) {
	for _, now := range []int{least, -1 << 53, -1} {
		checkSteps(t, New(1, 1, 1),
			step{now, "POLICY p 4 5 10 0 0 0", ":1"},
			step{now, "TAKE - p:0:5", "+OK"},
			step{now, "TAKE - p:0:1", "-DENIED 10"},
			step{9, "TAKE - p:0:1", "-DENIED 1"},
			step{now, "TAKE - p:0:1", "-DENIED 1"},
			step{now, "SET k 5", "+OK"},
			step{now, "EXPIRE k 2", ":1"},
			step{10, "TTL k", ":1"},
			step{now, "TAKE - p:0:5", "+OK"})
	}
}

// TestLatest: behind MaxTime nothing comes.
func TestLatest(t *testing.T) {
	for _, now := range []int{late, late + 1, most} {
		m := New(1, 4, 3)
		checkSteps(t, m, limited()...)
		checkSteps(t, m,
			step{now, "TAKE - b:0:5 g:0:5 l:0:5 c:0:5", "+OK"},
			step{now, "TAKE - b:0:1", "-DENIED 20"},
			step{now, "TAKE - g:0:1", "-DENIED 20"},
			step{now, "TAKE - l:0:1", "-DENIED 100"},
			step{now, "TAKE - c:0:1", "-DENIED 8"},
			step{now, "SET k 5", "+OK"},
			step{now, "EXPIRE k 5", ":1"},
			step{now, "GET k", "none"})
		if m.Now() != late {
			t.Fatal(m.Now())
		}
	}
}

// TestBeyond: what would have room behind MaxTime is denied till then, and the time that is told gets shorter no more.
func TestBeyond(t *testing.T) {
	m := New(1, 4, 0)
	checkSteps(t, m, limited()...)
	checkDo(t, m, late-10, "TAKE - l:0:5 c:0:5 b:0:5", "+OK")
	for now, wait := range map[int][3]string{late - 10: {"100", "18", "20"}, late - 1: {"91", "9", "11"}, late: {"90", "8", "10"}, late + 90: {"90", "8", "10"}, most: {"90", "8", "10"}} {
		for i, wish := range []string{"l:0:1", "c:0:1", "b:0:1"} {
			checkTrial(t, m, now, "TAKE - "+wish, "-DENIED "+wait[i])
		}
	}
}

package hash

import (
	"fmt"
	"hash/fnv"
	"runtime"
	"slices"
	"strings"
	"sync"
	"testing"
	"time"

	"tapster/api"
)

const (
	most  = 1<<63 - 1
	least = -1 << 63
)

// counts are the numbers of shards around which the clip and a division go wrong.
func counts() []int {
	return []int{least, least + 1, -api.MaxShards, -1, 0, 1, 2, 3, 7, 10, 63, api.MaxShards - 1, api.MaxShards, api.MaxShards + 1, 1000, 1 << 32, most - 1, most}
}

// texts are all texts of at most length bytes of alphabet.
func texts(alphabet string, length int) []string {
	l := []string{""}
	from := 0
	for range length {
		till := len(l)
		for _, s := range l[from:till] {
			for i := range len(alphabet) {
				l = append(l, s+alphabet[i:i+1])
			}
		}
		from = till
	}
	return l
}

// scattered are count texts of all bytes, many of them the key's own, the same in every run.
func scattered(count int) []string {
	l := make([]string, count)
	x := uint64(88172645463325252)
	for i := range l {
		b := make([]byte, i%23)
		for j := range b {
			x ^= x << 13
			x ^= x >> 7
			x ^= x << 17
			b[j] = byte(x >> 8)
			if x%4 == 0 {
				b[j] = `\:`[x>>4&1]
			}
		}
		l[i] = string(b)
	}
	return l
}

// exactSum is what the library tells of FNV-1a.
func exactSum(s string) uint64 {
	h := fnv.New64a()
	h.Write([]byte(s))
	return h.Sum64()
}

func exactCount(n int) int {
	if n < 1 {
		return 1
	}
	if n > 64 {
		return 64
	}
	return n
}

// exactKey is Key, told by the library.
func exactKey(parts []string) string {
	marks := strings.NewReplacer(`\`, `\\`, `:`, `\:`)
	var key strings.Builder
	for _, part := range parts {
		key.WriteString(marks.Replace(part) + ":")
	}
	return key.String()
}

// exactSpread is Spread, row by row and with no goroutines.
func exactSpread(keys []string, n int) [][]string {
	rows := make([][]string, exactCount(n))
	for row := range rows {
		for _, key := range keys {
			if exactSum(key)%uint64(len(rows)) == uint64(row) {
				rows[row] = append(rows[row], key)
			}
		}
	}
	return rows
}

func checkSum(t *testing.T, s string) {
	t.Helper()
	want := exactSum(s)
	if got := Sum(s); got != want {
		t.Fatalf("Sum(%q): %d, not %d", s, got, want)
	}
	for _, n := range counts() {
		if got, shard := Shard(s, n), int(want%uint64(exactCount(n))); got != shard {
			t.Fatalf("Shard(%q, %d): %d, not %d", s, n, got, shard)
		}
	}
}

func checkParts(t *testing.T, parts []string) {
	t.Helper()
	want := exactKey(parts)
	key := Key(parts...)
	if key != want {
		t.Fatalf("Key(%q): %q, not %q", parts, key, want)
	}
	if got, ok := Parts(key); !ok || !slices.Equal(got, parts) {
		t.Fatalf("Parts(%q): %q, %t, not %q, true", key, got, ok, parts)
	}
}

func checkKey(t *testing.T, s string) {
	t.Helper()
	got, ok := Parts(s)
	if ok && Key(got...) != s {
		t.Fatalf("Parts(%q): %q, of which the key is %q", s, got, Key(got...))
	}
	if !ok && len(got) != 0 {
		t.Fatalf("Parts(%q): %q beside false", s, got)
	}
}

func checkSpread(t *testing.T, keys []string, n int) {
	t.Helper()
	before := slices.Clone(keys)
	got, want := Spread(keys, n), exactSpread(keys, n)
	if !slices.EqualFunc(got, want, slices.Equal) {
		t.Fatalf("Spread of %d keys, %d: %q, not %q", len(keys), n, got, want)
	}
	if !slices.Equal(keys, before) {
		t.Fatalf("Spread of %d keys, %d: the keys are others then", len(keys), n)
	}
}

func TestSum(t *testing.T) {
	for _, x := range []struct {
		s    string
		want uint64
	}{
		{"", 14695981039346656037},
		{"a", 12638187200555641996},
		{"b", 0xaf63df4c8601f1a5},
		{"foobar", 0x85944171f73967e8},
		{"\x00", 0xaf63bd4c8601b7df},
		{"chongo was here!\n", 0x46810940eff5f915},
	} {
		if got := Sum(x.s); got != x.want {
			t.Errorf("Sum(%q): %d, not %d", x.s, got, x.want)
		}
	}
}

func TestShard(t *testing.T) {
	for _, x := range []struct {
		key     string
		n, want int
	}{
		{"a", 10, 6},
		{"a", 64, 12},
		{"a", 65, 12},
		{"a", 1000, 12},
		{"a", most, 12},
		{"a", 1, 0},
		{"a", 0, 0},
		{"a", -1, 0},
		{"a", -10, 0},
		{"a", least, 0},
		{"a", 63, 61},
		{"", 10, 7},
		{"", 64, 37},
		{"", 0, 0},
	} {
		if got := Shard(x.key, x.n); got != x.want {
			t.Errorf("Shard(%q, %d): %d, not %d", x.key, x.n, got, x.want)
		}
	}
}

// TestSums holds Sum and Shard against the library's FNV-1a.
func TestSums(t *testing.T) {
	for b := range 256 {
		checkSum(t, string([]byte{byte(b)}))
		checkSum(t, string([]byte{byte(b), 0xff, byte(b)}))
	}
	for _, s := range scattered(2000) {
		checkSum(t, s)
	}
	checkSum(t, strings.Repeat("\xff", 1<<20))
}

func TestKeyParts(t *testing.T) {
	for _, x := range []struct {
		parts []string
		key   string
	}{
		{nil, ``},
		{[]string{}, ``},
		{[]string{""}, `:`},
		{[]string{"", ""}, `::`},
		{[]string{"a"}, `a:`},
		{[]string{"a", ""}, `a::`},
		{[]string{"", "a"}, `:a:`},
		{[]string{"a", "b"}, `a:b:`},
		{[]string{"a", "b:c"}, `a:b\:c:`},
		{[]string{"a:b", "c"}, `a\:b:c:`},
		{[]string{"a", "b", "c"}, `a:b:c:`},
		{[]string{":"}, `\::`},
		{[]string{`\`}, `\\:`},
		{[]string{`\:`}, `\\\::`},
		{[]string{`:\`}, `\:\\:`},
		{[]string{`\`, ":"}, `\\:\::`},
		{[]string{`a\`, "b"}, `a\\:b:`},
		{[]string{"::", `\\`, ""}, `\:\::\\\\::`},
		{[]string{"\x00", "\xff\xfe", "\n", "ü"}, "\x00:\xff\xfe:\n:ü:"},
	} {
		if got := Key(x.parts...); got != x.key {
			t.Errorf("Key(%q): %q, not %q", x.parts, got, x.key)
		}
		if got, ok := Parts(x.key); !ok || !slices.Equal(got, x.parts) {
			t.Errorf("Parts(%q): %q, %t, not %q, true", x.key, got, ok, x.parts)
		}
	}
}

func TestPartsWrong(t *testing.T) {
	for name, s := range map[string]string{
		"no end":                            `a`,
		"no end of the last part":           `a:b`,
		"no end of any byte":                "\x00",
		"a mark alone":                      `\`,
		"a mark at the end":                 `a\`,
		"a mark behind a part":              `:\`,
		"a mark behind two parts":           `a:b:\`,
		"a marked end at the end":           `\:`,
		"a marked end at the end of bytes":  `a\:`,
		"a marked end behind a part":        `a:b\:`,
		"a marked mark at the end":          `\\`,
		"two marked marks at the end":       `a:\\\\`,
		"three marks ahead of the end":      `\\\:`,
		"a mark ahead of a letter":          `\a:`,
		"a mark ahead of a letter, later":   `a:b\c:`,
		"a mark ahead of a byte of 0":       "\\\x00:",
		"a mark ahead of a byte of ff":      "\\\xff:",
		"a mark ahead of a letter, no end":  `\a`,
		"a mark ahead of a blank":           `a\ b:`,
		"a mark ahead of another mark sign": `\/:`,
		"long, with no end":                 strings.Repeat("a:", 1<<20) + "a",
		"long, with a mark at the end":      strings.Repeat(`\:`, 1<<20),
	} {
		if got, ok := Parts(s); ok || len(got) != 0 {
			t.Errorf("%s: %.40q, %t", name, got, ok)
		}
	}
}

// TestThereAndBack is P7: what was made a key is read as it was, and parts that differ have keys that differ.
func TestThereAndBack(t *testing.T) {
	made := map[string][]string{}
	lay := func(parts ...string) {
		checkParts(t, parts)
		key := Key(parts...)
		if other, ok := made[key]; ok {
			t.Fatalf("%q and %q have the key %q", other, parts, key)
		}
		made[key] = parts
	}
	l := texts(`a:\`, 3)
	lay()
	for _, a := range l {
		lay(a)
		for _, b := range l {
			lay(a, b)
		}
	}
	l = texts(`a:\`, 2)
	for _, a := range l {
		for _, b := range l {
			for _, c := range l {
				lay(a, b, c)
			}
		}
	}
	l = scattered(3000)
	for i := range l {
		checkParts(t, l[i:min(i+i%7, len(l))])
	}
	for b := range 256 {
		s := string([]byte{byte(b)})
		checkParts(t, []string{s, s + s, "", s})
	}
	checkParts(t, make([]string, 1<<16))
}

// TestOneKey is P7 the other way round: a text of which Parts tells parts is their key, and every key is found.
func TestOneKey(t *testing.T) {
	const length = 8
	found := 0
	for _, s := range texts(`a:\`, length) {
		checkKey(t, s)
		if _, ok := Parts(s); ok {
			found++
		}
	}
	// A key is read byte by byte: "a", ":", and the pairs "\:" and "\\"; each but the empty one ends in ":".
	read := [length + 1]int{1, 2}
	for n := 2; n <= length; n++ {
		read[n] = 2*read[n-1] + 2*read[n-2]
	}
	want := 1
	for n := range length {
		want += read[n]
	}
	if found != want {
		t.Errorf("%d keys, not %d", found, want)
	}
	for _, s := range scattered(5000) {
		checkKey(t, s)
		checkKey(t, s+":")
	}
}

// TestPartsNew is rule R2 of Parts: what comes out is nobody else's.
func TestPartsNew(t *testing.T) {
	one, _ := Parts("a:b:c:")
	two, _ := Parts("a:b:c:")
	one[0] = "x"
	_ = append(one[:1], "y", "z")
	if !slices.Equal(two, []string{"a", "b", "c"}) {
		t.Errorf("another answer: %q", two)
	}
	given := []string{"a", "b:"}
	Key(given...)
	if !slices.Equal(given, []string{"a", "b:"}) {
		t.Errorf("what was handed in: %q", given)
	}
}

func TestSpread(t *testing.T) {
	for _, x := range []struct {
		name string
		keys []string
		n    int
		want [][]string
	}{
		{"no keys", nil, 3, make([][]string, 3)},
		{"an empty list", []string{}, 1, make([][]string, 1)},
		{"no keys, n too great", nil, 99, make([][]string, 64)},
		{"no keys, n too small", nil, -5, make([][]string, 1)},
		{"one shard", []string{"b", "a", "", "b"}, 1, [][]string{{"b", "a", "", "b"}}},
		{"no shards", []string{"b", "a"}, 0, [][]string{{"b", "a"}}},
		{"n least", []string{"b", "a"}, least, [][]string{{"b", "a"}}},
		{"two shards", []string{"a", "b", "c", "d"}, 2, [][]string{{"a", "c"}, {"b", "d"}}},
		{"two shards, in another order", []string{"d", "c", "b", "a"}, 2, [][]string{{"c", "a"}, {"d", "b"}}},
		{"a key that stands twice", []string{"a", "b", "a", "a", "b"}, 2, [][]string{{"a", "a", "a"}, {"b", "b"}}},
		{"a key without bytes", []string{"", "a", ""}, 2, [][]string{{"a"}, {"", ""}}},
	} {
		if got := Spread(x.keys, x.n); !slices.EqualFunc(got, x.want, slices.Equal) {
			t.Errorf("%s: %q, not %q", x.name, got, x.want)
		}
	}
}

// TestSpreadAll holds Spread against a plain loop, around the number of goroutines and for many keys.
func TestSpreadAll(t *testing.T) {
	l := scattered(5000)
	for length := range 3 * workers {
		for _, n := range counts() {
			checkSpread(t, l[:length], n)
			checkSpread(t, l[40:40+length], n)
		}
	}
	for _, n := range []int{1, 3, 64, most} {
		checkSpread(t, l, n)
		checkSpread(t, slices.Concat(l, l[:100], l), n)
	}
	long := strings.Repeat("a", 1<<20)
	checkSpread(t, []string{long, "", long + "b", "", long}, 5)
}

// TestEachKeyOnce: each key is in one row, and that is the row which Shard tells.
func TestEachKeyOnce(t *testing.T) {
	l := scattered(2000)
	for _, n := range counts() {
		total := 0
		for i, row := range Spread(l, n) {
			total += len(row)
			for _, key := range row {
				if Shard(key, n) != i {
					t.Fatalf("%q is in row %d of %d", key, i, n)
				}
			}
		}
		if total != len(l) {
			t.Fatalf("%d keys in all rows of %d", total, n)
		}
	}
}

// TestSpreadNew is rule R2 of Spread: rows share nothing with one another, with another call's, or with the keys.
func TestSpreadNew(t *testing.T) {
	keys := scattered(300)
	before := slices.Clone(keys)
	for _, n := range []int{1, 2, 7, 64} {
		want := exactSpread(before, n)
		other := Spread(keys, n)
		for i := range want {
			rows := Spread(keys, n)
			rows[i] = append(rows[i], "more")
			room := rows[i][:cap(rows[i])]
			for j := range room {
				room[j] = "changed"
			}
			rows[i] = want[i]
			if !slices.EqualFunc(rows, want, slices.Equal) {
				t.Fatalf("row %d of %d shares memory with another row", i, n)
			}
		}
		if !slices.EqualFunc(other, want, slices.Equal) {
			t.Fatalf("two answers of %d rows share memory", n)
		}
		if !slices.Equal(keys, before) {
			t.Fatalf("%d rows share memory with the keys", n)
		}
	}
}

// TestSpreadSame is rule R5: however its goroutines go, a call tells the same; and calls at the same time know nothing of one another.
func TestSpreadSame(t *testing.T) {
	keys := scattered(200)
	want := exactSpread(keys, 7)
	var all sync.WaitGroup
	for range 8 {
		all.Add(1)
		go func() {
			defer all.Done()
			for range 50 {
				if !slices.EqualFunc(Spread(keys, 7), want, slices.Equal) {
					t.Error("another answer")
				}
			}
		}()
	}
	all.Wait()
}

// TestSpreadJoined: no goroutine is left behind by a call.
func TestSpreadJoined(t *testing.T) {
	before := runtime.NumGoroutine()
	for length := range 100 {
		Spread(make([]string, length), 3)
	}
	// One that was waited for may still be on its way out.
	for range 500 {
		if runtime.NumGoroutine() <= before {
			return
		}
		time.Sleep(10 * time.Millisecond)
	}
	t.Errorf("%d goroutines, not %d", runtime.NumGoroutine(), before)
}

// TestAnyInput is P1: each call ends without a panic and tells what is right, whatever it is given.
func TestAnyInput(t *testing.T) {
	for first := range 256 {
		for second := range 256 {
			pair := string([]byte{byte(first), byte(second)})
			checkKey(t, pair)
			checkKey(t, pair+":")
			checkParts(t, []string{pair, pair[:1]})
		}
	}
	l := append(texts(`a:\`, 3), scattered(200)...)
	for i, s := range l {
		checkSum(t, s)
		checkKey(t, s)
		checkParts(t, l[:i])
		for _, n := range counts() {
			checkSpread(t, l[i:min(i+9, len(l))], n)
		}
	}
}

// FuzzHash looks for inputs that the edges miss: go test -fuzz=FuzzHash ./hash.
func FuzzHash(f *testing.F) {
	f.Add("a", "b:c", 10)
	f.Add(`a\`, `\:`, least)
	f.Add("", "\xff", most)
	f.Fuzz(func(t *testing.T, a, b string, n int) {
		checkSum(t, a)
		checkKey(t, a)
		checkKey(t, b+":")
		checkParts(t, []string{a, b, a + b})
		checkSpread(t, []string{a, b, a, fmt.Sprint(n), b + a}, n)
	})
}

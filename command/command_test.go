package command

import (
	"math"
	"slices"
	"strconv"
	"strings"
	"testing"

	"tapster/api"
)

// example is arguments, and the Command that they ask for.
type example struct {
	args []string
	want api.Command
}

func examples() []example {
	long := strings.Repeat("n", api.MaxName)
	key := strings.Repeat("\x00\xff", api.MaxPart/2)
	return []example{
		{[]string{"PING"}, api.Command{Kind: api.Ping}},
		{[]string{"STATS"}, api.Command{Kind: api.Stats}},
		{[]string{"POLICY", "p", "1", "10", "1000", "5", "0", "1"}, api.Command{Kind: api.Lay, Name: "p", Policy: api.Policy{Kind: api.Bucket, Limit: 10, Period: 1000, Burst: 5, Open: true}}},
		{[]string{"POLICY", "p.q", "2", "1", "2", "3", "0", "0"}, api.Command{Kind: api.Lay, Name: "p.q", Policy: api.Policy{Kind: api.Gcra, Limit: 1, Period: 2, Burst: 3}}},
		{[]string{"POLICY", "-", "3", "1048576", "1099511627776", "0", "100", "1"}, api.Command{Kind: api.Lay, Name: "-", Policy: api.Policy{Kind: api.Log, Limit: api.MaxLimit, Period: api.MaxPeriod, Cap: api.MaxLog, Open: true}}},
		{[]string{"POLICY", long, "4", "1", "1", "0", "0", "0"}, api.Command{Kind: api.Lay, Name: long, Policy: api.Policy{Kind: api.Count, Limit: 1, Period: 1}}},
		{[]string{"DROP", "a_Z-0.9"}, api.Command{Kind: api.Drop, Name: "a_Z-0.9"}},
		{[]string{"TAKE", "-", "p:0:1"}, api.Command{Kind: api.TakeAll, Wishes: []api.Wish{{Name: "p", Cost: 1}}}},
		{[]string{"TAKE", "t/u", "p:1:3"}, api.Command{Kind: api.TakeAll, Path: []string{"t", "u"}, Wishes: []api.Wish{{Name: "p", Deep: 1, Cost: 3}}}},
		{[]string{"TAKE", "-/-", "-:8:1048576", "p:0:1", "-:8:1048576"}, api.Command{Kind: api.TakeAll, Path: []string{"-", "-"}, Wishes: []api.Wish{{Name: "-", Deep: 8, Cost: api.MaxLimit}, {Name: "p", Cost: 1}, {Name: "-", Deep: 8, Cost: api.MaxLimit}}}},
		{[]string{"PEEK", "a/b:c", "p:2:1"}, api.Command{Kind: api.PeekAll, Path: []string{"a", "b:c"}, Wishes: []api.Wish{{Name: "p", Deep: 2, Cost: 1}}}},
		{[]string{"PEEK", key, long + ":0:1"}, api.Command{Kind: api.PeekAll, Path: []string{key}, Wishes: []api.Wish{{Name: long, Cost: 1}}}},
		{[]string{"RESERVE", "50", "a", "p:8:1"}, api.Command{Kind: api.ReserveAll, N: 50, Path: []string{"a"}, Wishes: []api.Wish{{Name: "p", Deep: 8, Cost: 1}}}},
		{[]string{"RESERVE", "0", "1/2/3/4/5/6/7/8", "a:1:1", "b:2:2"}, api.Command{Kind: api.ReserveAll, Path: []string{"1", "2", "3", "4", "5", "6", "7", "8"}, Wishes: []api.Wish{{Name: "a", Deep: 1, Cost: 1}, {Name: "b", Deep: 2, Cost: 2}}}},
		{[]string{"COMMIT", "7"}, api.Command{Kind: api.CommitOne, N: 7}},
		{[]string{"COMMIT", "7", "0"}, api.Command{Kind: api.CommitOne, N: 7, Wishes: []api.Wish{{}}}},
		{[]string{"COMMIT", "9007199254740992", "1048576"}, api.Command{Kind: api.CommitOne, N: api.MaxTime, Wishes: []api.Wish{{Cost: api.MaxLimit}}}},
		{[]string{"CANCEL", "7"}, api.Command{Kind: api.CancelOne, N: 7}},
		{[]string{"SET", "k", "-5"}, api.Command{Kind: api.Set, Name: "k", N: -5}},
		{[]string{"SET", "a b\r\n", "9223372036854775807"}, api.Command{Kind: api.Set, Name: "a b\r\n", N: math.MaxInt}},
		{[]string{"GET", key}, api.Command{Kind: api.Get, Name: key}},
		{[]string{"INCRBY", "k", "-9223372036854775808"}, api.Command{Kind: api.Add, Name: "k", N: math.MinInt}},
		{[]string{"DEL", "DEL"}, api.Command{Kind: api.Delete, Name: "DEL"}},
		{[]string{"EXPIRE", "k", "0"}, api.Command{Kind: api.Expire, Name: "k"}},
		{[]string{"EXPIRE", "k", "9007199254740992"}, api.Command{Kind: api.Expire, Name: "k", N: api.MaxTime}},
		{[]string{"TTL", "-"}, api.Command{Kind: api.Left, Name: "-"}},
	}
}

// eachName tells one example of each name.
func eachName() []example {
	return slices.CompactFunc(examples(), func(a, b example) bool { return a.args[0] == b.args[0] })
}

// arity is how many arguments there may be behind a name.
type arity struct{ least, most int }

func arities() map[string]arity {
	const lots = math.MaxInt // where ErrArity tells of none that are too many
	return map[string]arity{
		"PING": {0, 0}, "STATS": {0, 0}, "DROP": {1, 1}, "GET": {1, 1}, "DEL": {1, 1}, "TTL": {1, 1}, "POLICY": {7, 7},
		"SET": {2, 2}, "INCRBY": {2, 2}, "EXPIRE": {2, 2}, "TAKE": {2, lots}, "PEEK": {2, lots}, "RESERVE": {3, lots}, "COMMIT": {1, 2}, "CANCEL": {1, 1},
	}
}

// args are the words of a line.
func args(line string) []string {
	return strings.Fields(line)
}

// with is l with x in that place.
func with(l []string, i int, x string) []string {
	l = slices.Clone(l)
	l[i] = x
	return l
}

// alike tells whether two Commands have the same in each field.
func alike(a, b api.Command) bool {
	p, q := a.Policy, b.Policy
	if a.Kind != b.Kind || a.Name != b.Name || a.N != b.N || len(a.Path) != len(b.Path) || len(a.Wishes) != len(b.Wishes) ||
		p.Kind != q.Kind || p.Limit != q.Limit || p.Period != q.Period || p.Burst != q.Burst || p.Cap != q.Cap || p.Open != q.Open {
		return false
	}
	for i := range a.Path {
		if a.Path[i] != b.Path[i] {
			return false
		}
	}
	for i, x := range a.Wishes {
		if y := b.Wishes[i]; x.Name != y.Name || x.Deep != y.Deep || x.Cost != y.Cost {
			return false
		}
	}
	return true
}

func checkParse(t testing.TB, want api.Command, errno api.Errno, args ...string) {
	t.Helper()
	if c, e := Parse(args...); !alike(c, want) || e != errno {
		t.Fatalf("Parse(%.2000q): %+v, %d, not %+v, %d", args, c, e, want, errno)
	}
}

func checkError(t testing.TB, errno api.Errno, args ...string) {
	t.Helper()
	checkParse(t, api.Command{}, errno, args...)
}

func checkPrint(t testing.TB, c api.Command, want ...string) {
	t.Helper()
	if l := Print(c); !slices.Equal(l, want) {
		t.Fatalf("Print(%+v): %.2000q, not %.2000q", c, l, want)
	}
}

// checkBoth holds that args ask for c, and that it is printed as these.
func checkBoth(t testing.TB, c api.Command, args ...string) {
	t.Helper()
	checkParse(t, c, api.OK, args...)
	checkPrint(t, c, args...)
}

func TestExamples(t *testing.T) {
	for _, x := range examples() {
		checkBoth(t, x.want, x.args...)
		small := with(x.args, 0, strings.ToLower(x.args[0]))
		checkParse(t, x.want, api.OK, small...)
	}
	checkParse(t, api.Command{Kind: api.TakeAll, Path: []string{"t", "u"}, Wishes: []api.Wish{{Name: "p", Deep: 1, Cost: 3}}}, api.OK, "take", "t/u", "p:1:3")
}

// TestNames: each letter of a name, great or small, and no other byte in its place.
func TestNames(t *testing.T) {
	checkError(t, api.ErrUnknown)
	checkError(t, api.ErrUnknown, "")
	checkError(t, api.ErrUnknown, "", "PING")
	all := arities()
	if len(eachName()) != len(all) {
		t.Fatal(len(eachName()))
	}
	for _, x := range eachName() {
		name, behind := x.args[0], x.args[1:]
		unknown := func(other string) {
			t.Helper()
			if _, there := all[strings.ToUpper(other)]; !there {
				checkError(t, api.ErrUnknown, other)
				checkError(t, api.ErrUnknown, append([]string{other}, behind...)...)
			}
		}
		for mask := range 1 << len(name) {
			b := []byte(name)
			for i := range b {
				if mask>>i&1 == 1 {
					b[i] += 'a' - 'A'
				}
			}
			checkParse(t, x.want, api.OK, append([]string{string(b)}, behind...)...)
		}
		for i := range len(name) + 1 {
			for c := range 256 {
				one := string([]byte{byte(c)})
				unknown(name[:i] + one + name[i:])
				if i < len(name) && c|0x20 != int(name[i])|0x20 {
					unknown(name[:i] + one + name[i+1:])
				}
			}
			if i < len(name) {
				unknown(name[:i] + name[i+1:])
			}
		}
		unknown(name + name)
		unknown(strings.Repeat(name, 100000))
		checkError(t, api.ErrUnknown, " "+name)
		checkError(t, api.ErrUnknown, name+" "+strings.Join(behind, " "))
	}
}

// TestOtherLetters: letters that look like A to Z, or become one of them when they are made great or small, are others.
func TestOtherLetters(t *testing.T) {
	others := map[string][]string{
		"S": {"\u017f", "\u0405", "\uff33", "\uff53"},
		"K": {"\u212a", "\u041a", "\uff2b"},
		"I": {"\u0131", "\u0130", "\u0406", "\uff29"},
		"P": {"\u0420", "\u03a1"},
		"T": {"\u0422", "\u03a4", "T\u0301"},
		"E": {"\u0415", "\u00c9", "\u00e9"},
		"A": {"\u0410", "\u0391", "\u00c4"},
	}
	gone := 0
	for _, x := range examples() {
		for letter, l := range others {
			for _, other := range l {
				name := strings.Replace(x.args[0], letter, other, 1)
				if name == x.args[0] {
					continue
				}
				gone++
				checkError(t, api.ErrUnknown, with(x.args, 0, name)...)
				checkError(t, api.ErrUnknown, with(x.args, 0, strings.Replace(strings.ToLower(x.args[0]), strings.ToLower(letter), other, 1))...)
			}
		}
	}
	if gone < 80 {
		t.Fatal(gone)
	}
}

// TestArity: of each name as many arguments as it has, and ErrUnknown and ErrArity ahead of whatever else is wrong.
func TestArity(t *testing.T) {
	for name, x := range arities() {
		for count := range 60 {
			l := slices.Repeat([]string{""}, count)
			checkError(t, api.ErrUnknown, append([]string{name + "S"}, l...)...)
			if count < x.least || count > x.most {
				checkError(t, api.ErrArity, append([]string{name}, l...)...)
				checkError(t, api.ErrArity, append([]string{strings.ToLower(name)}, slices.Repeat([]string{"1"}, count)...)...)
			} else if count > 0 {
				checkError(t, api.ErrArg, append([]string{name}, l...)...)
			}
		}
	}
	for _, x := range examples() {
		has := arities()[x.args[0]]
		if count := len(x.args) - 1; count == has.least && count > 0 {
			checkError(t, api.ErrArity, x.args[:count]...)
		}
		if count := len(x.args) - 1; count == has.most {
			checkError(t, api.ErrArity, append(slices.Clone(x.args), "1")...)
		}
	}
	checkError(t, api.ErrArity, "COMMIT", "1", "1", "1")
	checkError(t, api.ErrArity, "COMMIT")
	checkError(t, api.ErrArity, "TAKE", "a")
	checkError(t, api.ErrArity, "TAKE", strings.Repeat("a/", 20))
	checkError(t, api.ErrArity, "RESERVE", "1", "a")
	checkError(t, api.ErrArity, "RESERVE", "x", "a//b")
}

// wishing tells the arguments of a command that has wishes: its name, what stands ahead of them, and these.
func wishing(name string, wishes ...string) []string {
	l := []string{name}
	if name == "RESERVE" {
		l = append(l, "5")
	}
	return append(append(l, "a/b"), wishes...)
}

func kindOf(name string) int {
	for _, x := range examples() {
		if x.args[0] == name {
			return x.want.Kind
		}
	}
	return 0
}

// TestHowManyWishes: from one to MaxWish.
func TestHowManyWishes(t *testing.T) {
	for _, name := range []string{"TAKE", "PEEK", "RESERVE"} {
		checkError(t, api.ErrArity, wishing(name)...)
		want := api.Command{Kind: kindOf(name), Path: []string{"a", "b"}}
		if name == "RESERVE" {
			want.N = 5
		}
		var wishes []string
		for count := 1; count <= api.MaxWish+30; count++ {
			wishes = append(wishes, "p:"+strconv.Itoa(count%9)+":"+strconv.Itoa(count))
			want.Wishes = append(want.Wishes, api.Wish{Name: "p", Deep: count % 9, Cost: count})
			if count <= api.MaxWish {
				checkBoth(t, want, wishing(name, wishes...)...)
			} else {
				checkError(t, api.ErrLong, wishing(name, wishes...)...)
				checkPrint(t, want)
				// That there are too many is told ahead of each.
				checkError(t, api.ErrLong, wishing(name, with(wishes, 0, "")...)...)
				checkError(t, api.ErrLong, wishing(name, with(wishes, count-1, "p:0")...)...)
			}
			for i := range count {
				if count <= api.MaxWish {
					checkError(t, api.ErrArg, wishing(name, with(wishes, i, "p:0:0")...)...)
				}
			}
		}
		checkError(t, api.ErrLong, wishing(name, slices.Repeat([]string{"p:0:1"}, 100000)...)...)
	}
}

// TestKeys: 1 to MaxPart bytes, whatever they are.
func TestKeys(t *testing.T) {
	for _, x := range eachName() {
		switch x.want.Kind {
		case api.Set, api.Get, api.Add, api.Delete, api.Expire, api.Left:
		default:
			continue
		}
		for count := range 2*api.MaxPart + 1 {
			for _, one := range []string{"k", "\xff", "-"} {
				key := strings.Repeat(one, count)
				want := x.want
				want.Name = key
				if count >= 1 && count <= api.MaxPart {
					checkBoth(t, want, with(x.args, 1, key)...)
				} else {
					checkError(t, api.ErrArg, with(x.args, 1, key)...)
					checkPrint(t, want)
				}
			}
		}
		for c := range 256 {
			want := x.want
			for _, key := range []string{string([]byte{byte(c)}), string([]byte{'a', byte(c), 'b'})} {
				want.Name = key
				checkBoth(t, want, with(x.args, 1, key)...)
			}
		}
		// Bytes are counted, not letters.
		checkError(t, api.ErrArg, with(x.args, 1, strings.Repeat("\u65e5", 34))...)
		checkError(t, api.ErrArg, with(x.args, 1, strings.Repeat("k", 1000000))...)
	}
}

// named tells whether each byte may be in a NAME.
func named(c byte) bool {
	return strings.IndexByte("abcdefghijklmnopqrstuvwxyzABCDEFGHIJKLMNOPQRSTUVWXYZ0123456789-_.", c) >= 0
}

// TestPolicyNames: 1 to MaxName bytes, of those that may be, wherever a NAME stands.
func TestPolicyNames(t *testing.T) {
	places := []struct {
		line string
		name func(c *api.Command, name string)
	}{
		{"DROP #", func(c *api.Command, name string) { c.Name = name }},
		{"POLICY # 4 1 1 0 0 0", func(c *api.Command, name string) { c.Name = name }},
		{"TAKE - #:0:1", func(c *api.Command, name string) { c.Wishes[0].Name = name }},
		{"PEEK a p:0:1 #:0:1", func(c *api.Command, name string) { c.Wishes[1].Name = name }},
		{"RESERVE 1 - p:0:1 #:0:1 q:0:1", func(c *api.Command, name string) { c.Wishes[1].Name = name }},
	}
	for _, x := range places {
		try := func(name string, may bool) {
			t.Helper()
			want, e := Parse(args(strings.ReplaceAll(x.line, "#", "n"))...)
			if e != api.OK {
				t.Fatal(x.line, e)
			}
			x.name(&want, name)
			l := args(x.line)
			for i := range l {
				l[i] = strings.ReplaceAll(l[i], "#", name)
			}
			if may {
				checkBoth(t, want, l...)
			} else {
				checkError(t, api.ErrArg, l...)
				checkPrint(t, want)
			}
		}
		for count := range 3 * api.MaxName {
			for _, one := range []string{"n", "-", ".", "9"} {
				try(strings.Repeat(one, count), count >= 1 && count <= api.MaxName)
			}
		}
		for c := range 256 {
			one := string([]byte{byte(c)})
			for _, name := range []string{one, one + "n", "n" + one, "n" + one + "n"} {
				try(name, named(byte(c)))
			}
		}
		for _, name := range []string{"\u00e9", "n\u212a", "\uff4e", " ", "n\n", "n:0:1"} {
			try(name, false)
		}
		try(strings.Repeat("n", 1000000), false)
	}
}

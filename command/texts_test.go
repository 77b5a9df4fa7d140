package command

import (
	"math"
	"slices"
	"strings"
	"testing"

	"tapster/api"
)

// pathLines are where a path stands.
func pathLines(path string) [][]string {
	return [][]string{{"TAKE", path, "p:0:1"}, {"PEEK", path, "p:0:1"}, {"RESERVE", "0", path, "p:0:1"}}
}

// checkPath holds what path is read as, and that its parts are printed as it; or that error.
func checkPath(t *testing.T, path string, errno api.Errno, parts ...string) {
	t.Helper()
	for _, l := range pathLines(path) {
		want := api.Command{Kind: kindOf(l[0]), Path: parts, Wishes: []api.Wish{{Name: "p", Cost: 1}}}
		if errno == api.OK {
			checkBoth(t, want, l...)
		} else {
			checkError(t, errno, l...)
		}
	}
}

func TestPaths(t *testing.T) {
	part := strings.Repeat("a", api.MaxPart)
	eight := strings.Repeat("a/", api.MaxPath-1)
	checkPath(t, "-", api.OK)
	for path, parts := range map[string][]string{
		"a": {"a"}, "a/b": {"a", "b"}, "--": {"--"}, "-/-": {"-", "-"}, "-/a": {"-", "a"}, "a/-": {"a", "-"}, "-a": {"-a"}, " ": {" "}, "- ": {"- "}, "a b/\x00": {"a b", "\x00"}, "\xff": {"\xff"}, "\\/\\": {"\\", "\\"}, ":/:": {":", ":"}, "a:1:1": {"a:1:1"}, "\u2215": {"\u2215"}, "./..": {".", ".."}, "\r\n": {"\r\n"},
		"1/2/3/4/5/6/7/8": {"1", "2", "3", "4", "5", "6", "7", "8"},
		part:              {part},
		"x/" + part:       {"x", part},
		part + "/" + part: {part, part},
		eight + part:      append(slices.Repeat([]string{"a"}, 7), part),
	} {
		checkPath(t, path, api.OK, parts...)
	}
	for _, path := range []string{"", "/", "//", "/a", "a/", "/-", "-/", "a//b", "//a", "a//", "a//b//c", "///////", part + "/", "/" + part} {
		checkPath(t, path, api.ErrArg)
	}
	for _, path := range []string{part + "a", strings.Repeat("-", 101), "a/" + part + "a", part + "a/a", eight + "a/a", eight + part + "/a", strings.Repeat("a", 1000000), strings.Repeat("a/", 1000000) + "a"} {
		checkPath(t, path, api.ErrLong)
	}
	// More parts than there may be, or one that is too long, is told ahead of one without bytes, wherever that stands.
	for _, path := range []string{"////////", eight + "a/", "/" + eight + "a", strings.Repeat("/", 1000000), "/" + part + "a", part + "a/", part + "a//" + part, "//" + part + "a", eight + "/" + part + "a", "a//" + part + "a/b", eight + "a//////" + part + "a"} {
		checkPath(t, path, api.ErrLong)
	}
	for c := range 256 {
		one := string([]byte{byte(c)})
		switch one {
		case "/":
			checkPath(t, "a"+one+"b", api.OK, "a", "b")
		case "-":
			checkPath(t, "a"+one+"b", api.OK, "a-b")
		default:
			checkPath(t, one, api.OK, one)
			checkPath(t, one+"/b", api.OK, one, "b")
			checkPath(t, "a"+one+"b", api.OK, "a"+one+"b")
		}
	}
}

// TestHowManyParts: each number of parts, of several lengths, the last one of another.
func TestHowManyParts(t *testing.T) {
	lengths := []int{0, 1, 2, 99, 100, 101, 200}
	for count := 1; count <= 12; count++ {
		for _, length := range lengths {
			for _, last := range lengths {
				parts := slices.Repeat([]string{strings.Repeat("a", length)}, count)
				parts[count-1] = strings.Repeat("b", last)
				errno := api.OK
				switch {
				case count > api.MaxPath, last > api.MaxPart, count > 1 && length > api.MaxPart:
					errno = api.ErrLong
				case last == 0, count > 1 && length == 0:
					errno = api.ErrArg
				}
				checkPath(t, strings.Join(parts, "/"), errno, parts...)
			}
		}
	}
}

// TestWishForms: a name, a depth and a cost, two colons, and nothing else.
func TestWishForms(t *testing.T) {
	wrong := []string{"", ":", "::", ":::", "::::", "p", "p:", ":p", "p:1", "1:1", ":1:", ":1", "1:", "p::", ":1:1", "p::1", "p:1:", "::1", ":1:", "p:1:1:", ":p:1:1", "p::1:1", "p:1::1", "p:1:1:1", "p:1:1::", "p:1:1:1:1", "p:q:1", "p:1:q", "p 1 1", "p:1 :1", "p: 1:1", " p:1:1", "p:1:1 ", "p;1;1", "p:-1:1", "p:9:1", "p:10:1", "p:1:0", "p:1:-1", "p:1:1048577", "p:01:1", "p:1:01", "p:+1:1", "p:1:+1", "p:-0:1", "p/q:1:1", "p\uff1a1\uff1a1", strings.Repeat(":", 1000000), "p:1:" + strings.Repeat("1", 1000000)}
	right := api.Wish{Name: "r", Deep: 3, Cost: 5}
	for _, name := range []string{"TAKE", "PEEK", "RESERVE"} {
		for _, x := range wrong {
			checkError(t, api.ErrArg, wishing(name, x)...)
			checkError(t, api.ErrArg, wishing(name, "r:3:5", x)...)
			checkError(t, api.ErrArg, wishing(name, x, "r:3:5")...)
			checkError(t, api.ErrArg, wishing(name, slices.Repeat([]string{x}, api.MaxWish)...)...)
			checkError(t, api.ErrLong, wishing(name, slices.Repeat([]string{x}, api.MaxWish+1)...)...)
		}
		// How many parts the path has is not asked; only how many it could have.
		for deep := range api.MaxPath + 1 {
			want, e := Parse(wishing(name, "r:3:5", "q:0:1")...)
			if e != api.OK || want.Wishes[0] != right {
				t.Fatal(name, want, e)
			}
			want.Wishes[1].Deep = deep
			checkBoth(t, want, wishing(name, "r:3:5", "q:"+string(rune('0'+deep))+":1")...)
		}
	}
}

// TestCommit: of one number alone there are no wishes; of two, one that has a Cost alone.
func TestCommit(t *testing.T) {
	c, e := Parse("COMMIT", "1")
	if e != api.OK || len(c.Wishes) != 0 || c.N != 1 {
		t.Fatal(c, e)
	}
	for _, cost := range []int{0, 1, 2, api.MaxLimit - 1, api.MaxLimit} {
		want := api.Command{Kind: api.CommitOne, N: 3, Wishes: []api.Wish{{Cost: cost}}}
		l := Print(want)
		if len(l) != 3 || l[0] != "COMMIT" || l[1] != "3" {
			t.Fatal(l)
		}
		checkBoth(t, want, l...)
	}
	for _, wishes := range [][]api.Wish{{{Cost: -1}}, {{Cost: api.MaxLimit + 1}}, {{Name: "p", Cost: 1}}, {{Deep: 1, Cost: 1}}, {{Name: ":"}}, {{}, {}}, {{Cost: 1}, {Cost: 1}}, slices.Repeat([]api.Wish{{Cost: 1}}, 30)} {
		checkPrint(t, api.Command{Kind: api.CommitOne, N: 3, Wishes: wishes})
	}
}

// fault spoils one of the arguments of a line.
type fault struct {
	place int // in the order in which the arguments are asked
	errno api.Errno
	spoil func(l []string) []string
}

// at spoils the argument in that place by that text.
func at(i int, text string, errno api.Errno) fault {
	return fault{10 * i, errno, func(l []string) []string { return with(l, i, text) }}
}

// pathFaults are of a line that has a path in that place, and three wishes behind it.
func pathFaults(path int) []fault {
	long := strings.Repeat("a", api.MaxPart+1)
	l := []fault{at(path, "", api.ErrArg), at(path, "a//b", api.ErrArg), at(path, long, api.ErrLong), at(path, "//"+long, api.ErrLong), at(path, "////////", api.ErrLong)}
	l = append(l, fault{10*path + 5, api.ErrLong, func(l []string) []string {
		return append(slices.Clone(l), slices.Repeat([]string{"p:0:1"}, api.MaxWish)...)
	}})
	for i := path + 1; i <= path+3; i++ {
		l = append(l, at(i, "", api.ErrArg), at(i, "p:0", api.ErrArg), at(i, ":0:1", api.ErrArg), at(i, "p:9:1", api.ErrArg), at(i, "p:0:0", api.ErrArg), at(i, "p:0:1:", api.ErrArg))
	}
	return l
}

// TestPairs spoils each two arguments of a line: the error is that of the one that stands ahead; and each one alone.
func TestPairs(t *testing.T) {
	long := strings.Repeat("a", api.MaxPart+1)
	lines := []struct {
		line   string
		faults []fault
	}{
		{"TAKE a/b p:0:1 q:1:2 r:2:3", pathFaults(1)},
		{"PEEK a/b p:0:1 q:1:2 r:2:3", pathFaults(1)},
		{"RESERVE 5 a/b p:0:1 q:1:2 r:2:3", append(pathFaults(2), at(1, "-1", api.ErrArg), at(1, "", api.ErrArg), at(1, "9007199254740993", api.ErrArg))},
		{"SET k 5", []fault{at(1, "", api.ErrArg), at(1, long, api.ErrArg), at(2, "x", api.ErrArg), at(2, "01", api.ErrArg)}},
		{"INCRBY k 5", []fault{at(1, "", api.ErrArg), at(1, long, api.ErrArg), at(2, "x", api.ErrArg), at(2, "01", api.ErrArg)}},
		{"EXPIRE k 5", []fault{at(1, "", api.ErrArg), at(1, long, api.ErrArg), at(2, "-1", api.ErrArg), at(2, "", api.ErrArg)}},
		{"COMMIT 5 5", []fault{at(1, "0", api.ErrArg), at(1, "", api.ErrArg), at(2, "-1", api.ErrArg), at(2, "1048577", api.ErrArg)}},
		{"POLICY p 4 1 1 0 0 0", []fault{at(1, "", api.ErrArg), at(1, long, api.ErrArg), at(2, "0", api.ErrArg), at(2, "5", api.ErrArg), at(3, "x", api.ErrArg), at(3, "0", api.ErrArg), at(4, "-1", api.ErrArg), at(5, "1", api.ErrArg), at(5, "", api.ErrArg), at(6, "7", api.ErrArg), at(7, "2", api.ErrArg)}},
	}
	for _, x := range lines {
		for _, a := range x.faults {
			checkError(t, a.errno, a.spoil(args(x.line))...)
			for _, b := range x.faults {
				if a.place < b.place {
					checkError(t, a.errno, b.spoil(a.spoil(args(x.line)))...)
				}
			}
		}
	}
	// An error ahead of all of these.
	checkError(t, api.ErrUnknown, "TAKEN", "", "")
	checkError(t, api.ErrArity, "RESERVE", "-1", long)
	checkError(t, api.ErrArity, "POLICY", "", "0", "1", "1", "0", "0")
	checkError(t, api.ErrArity, "POLICY", "", "0", "1", "1", "0", "0", "0", "0")
}

// others are Commands that differ from c in one field alone, or in one field of that.
func others(c api.Command) []api.Command {
	var l []api.Command
	change := func(by func(c *api.Command)) {
		x := c
		x.Path, x.Wishes = slices.Clone(c.Path), slices.Clone(c.Wishes)
		by(&x)
		l = append(l, x)
	}
	ints := []func(c *api.Command) *int{
		func(c *api.Command) *int { return &c.Kind }, func(c *api.Command) *int { return &c.N },
		func(c *api.Command) *int { return &c.Policy.Kind }, func(c *api.Command) *int { return &c.Policy.Limit },
		func(c *api.Command) *int { return &c.Policy.Period }, func(c *api.Command) *int { return &c.Policy.Burst },
		func(c *api.Command) *int { return &c.Policy.Cap },
	}
	for i := range c.Wishes {
		ints = append(ints, func(c *api.Command) *int { return &c.Wishes[i].Deep }, func(c *api.Command) *int { return &c.Wishes[i].Cost })
	}
	for _, field := range ints {
		for _, by := range []int{1, -1, 100, 1 << 21, 1 << 41, 1 << 54, math.MinInt} {
			change(func(c *api.Command) { *field(c) += by })
		}
	}
	texts := []func(c *api.Command) *string{func(c *api.Command) *string { return &c.Name }}
	for i := range c.Path {
		texts = append(texts, func(c *api.Command) *string { return &c.Path[i] })
	}
	for i := range c.Wishes {
		texts = append(texts, func(c *api.Command) *string { return &c.Wishes[i].Name })
	}
	for _, field := range texts {
		for _, by := range []string{"x", "/", ":", " ", "\x00", "/x", ":0", strings.Repeat("x", 101)} {
			change(func(c *api.Command) { *field(c) += by })
			change(func(c *api.Command) { *field(c) = by + *field(c) })
		}
	}
	change(func(c *api.Command) { c.Policy.Open = !c.Policy.Open })
	for _, part := range []string{"", "x", "-", "a/b"} {
		change(func(c *api.Command) { c.Path = append(c.Path, part) })
		change(func(c *api.Command) { c.Path = append([]string{part}, c.Path...) })
	}
	for _, wish := range []api.Wish{{}, {Name: "p", Cost: 1}, {Cost: 1}, {Name: "p:0", Cost: 1}, {Name: "x", Deep: 1}} {
		change(func(c *api.Command) { c.Wishes = append(c.Wishes, wish) })
		change(func(c *api.Command) { c.Wishes = append([]api.Wish{wish}, c.Wishes...) })
	}
	if len(c.Path) > 0 {
		change(func(c *api.Command) { c.Path = c.Path[1:] })
		change(func(c *api.Command) { c.Path = nil })
	}
	if len(c.Wishes) > 0 {
		change(func(c *api.Command) { c.Wishes = c.Wishes[1:] })
		change(func(c *api.Command) { c.Wishes = nil })
	}
	change(func(c *api.Command) { slices.Reverse(c.Path) })
	change(func(c *api.Command) { slices.Reverse(c.Wishes) })
	return l
}

// filled is a Command that has something everywhere.
func filled() api.Command {
	return api.Command{Kind: api.TakeAll, Name: "n", Policy: api.Policy{Kind: 1, Limit: 2, Period: 3, Burst: 4, Cap: 5, Open: true}, Path: []string{"a", "b", "a"}, Wishes: []api.Wish{{Name: "p", Deep: 1, Cost: 2}, {Name: "q", Deep: 3, Cost: 4}, {Name: "p", Deep: 1, Cost: 3}}, N: 6}
}

func checkSame(t testing.TB, a, b api.Command, want bool) {
	t.Helper()
	if Same(a, b) != want || Same(b, a) != want {
		t.Fatalf("Same(%+v, %+v): not %t", a, b, want)
	}
}

func TestSame(t *testing.T) {
	var all []api.Command
	for _, x := range examples() {
		all = append(all, x.want)
	}
	all = append(all, filled(), api.Command{}, api.Command{Kind: -1, Path: []string{""}, Wishes: []api.Wish{{}}})
	for _, a := range all {
		for _, b := range all {
			checkSame(t, a, b, alike(a, b))
		}
		empty := a
		empty.Path, empty.Wishes = append([]string{}, a.Path...), append(make([]api.Wish, 0, 5), a.Wishes...)
		checkSame(t, a, empty, true)
		for _, b := range others(a) {
			checkSame(t, a, b, alike(a, b))
			checkSame(t, b, b, true)
		}
	}
	different := 0
	for _, b := range others(filled()) {
		if !alike(filled(), b) {
			different++
		}
	}
	// Of all, only the list that is turned about, which is then as it was, is the same.
	if n := len(others(filled())); different != n-1 {
		t.Fatal(different, n)
	}
	checkSame(t, api.Command{Path: nil}, api.Command{Path: []string{}}, true)
	checkSame(t, api.Command{Wishes: nil}, api.Command{Wishes: []api.Wish{}}, true)
	checkSame(t, api.Command{Path: []string{"a", "b"}}, api.Command{Path: []string{"b", "a"}}, false)
	checkSame(t, api.Command{Path: []string{"a", "b"}}, api.Command{Path: []string{"ab"}}, false)
	checkSame(t, api.Command{Path: []string{"a/b"}}, api.Command{Path: []string{"a", "b"}}, false)
	checkSame(t, api.Command{Wishes: []api.Wish{{Name: "a"}, {Name: "b"}}}, api.Command{Wishes: []api.Wish{{Name: "b"}, {Name: "a"}}}, false)
}

// TestPrintNone: Commands that no arguments tell have none: such of no Kind, such that have what their Kind has not, or something that may not be.
func TestPrintNone(t *testing.T) {
	for _, kind := range []int{0, 16, 17, -1, 100, 256 + api.Ping, 1<<32 + api.Ping, math.MaxInt, math.MinInt} {
		checkPrint(t, api.Command{Kind: kind})
		for _, x := range examples() {
			x.want.Kind = kind
			checkPrint(t, x.want)
		}
	}
	for kind := 1; kind <= 15; kind++ {
		c := filled()
		c.Kind = kind
		checkPrint(t, c)
		if kind != api.Ping && kind != api.Stats {
			checkPrint(t, api.Command{Kind: kind})
		}
	}
	for _, line := range []string{"PING", "STATS"} {
		c, _ := Parse(line)
		for _, x := range []api.Command{{Name: "x"}, {N: 1}, {N: -1}, {Path: []string{"a"}}, {Path: []string{""}}, {Wishes: []api.Wish{{}}}, {Policy: api.Policy{Kind: 1}}, {Policy: api.Policy{Limit: 1}}, {Policy: api.Policy{Period: 1}}, {Policy: api.Policy{Burst: 1}}, {Policy: api.Policy{Cap: 1}}, {Policy: api.Policy{Open: true}}} {
			x.Kind = c.Kind
			checkPrint(t, x)
		}
	}
	for _, path := range [][]string{{"-"}, {""}, {"a", ""}, {"", "a"}, {"/"}, {"a/b"}, {"a", "b/c"}, {"-/"}, {"/-"}, slices.Repeat([]string{"a"}, 9), {strings.Repeat("a", 101)}, {"a", strings.Repeat("a", 101)}, {"", ""}, slices.Repeat([]string{"a"}, 100000), {strings.Repeat("/", 1000000)}} {
		for _, kind := range []int{api.TakeAll, api.PeekAll, api.ReserveAll} {
			checkPrint(t, api.Command{Kind: kind, Path: path, Wishes: []api.Wish{{Name: "p", Cost: 1}}})
		}
	}
	for _, wish := range []api.Wish{{}, {Name: "p"}, {Cost: 1}, {Name: "p", Deep: -1, Cost: 1}, {Name: "p", Deep: 9, Cost: 1}, {Name: "p", Cost: -1}, {Name: "p", Cost: api.MaxLimit + 1}, {Name: "p:0", Cost: 1}, {Name: "p:0:1", Cost: 1}, {Name: ":", Cost: 1}, {Name: "p/", Cost: 1}, {Name: " ", Cost: 1}, {Name: strings.Repeat("p", 41), Cost: 1}} {
		for _, kind := range []int{api.TakeAll, api.PeekAll, api.ReserveAll} {
			checkPrint(t, api.Command{Kind: kind, Wishes: []api.Wish{wish}})
			checkPrint(t, api.Command{Kind: kind, Wishes: []api.Wish{{Name: "p", Cost: 1}, wish}})
			checkPrint(t, api.Command{Kind: kind, Wishes: []api.Wish{wish, {Name: "p", Cost: 1}}})
		}
	}
	for _, kind := range []int{api.TakeAll, api.PeekAll} {
		checkPrint(t, api.Command{Kind: kind, N: 1, Wishes: []api.Wish{{Name: "p", Cost: 1}}})
	}
}

func TestErrs(t *testing.T) {
	for e, want := range map[api.Errno]string{
		api.OK: "ERR 0", api.ErrNil: "ERR 1", api.ErrArg: "ERR 2", api.ErrLong: "ERR 3", api.ErrNone: "ERR 4", api.ErrFull: "ERR 5", api.ErrOver: "ERR 6", api.ErrProto: "ERR 7", api.ErrShort: "ERR 8", api.ErrForm: "ERR 9", api.ErrUnknown: "ERR 10", api.ErrArity: "ERR 11",
		12: "ERR 12", 100: "ERR 100", -1: "ERR -1", -10: "ERR -10", 1 << 32: "ERR 4294967296", math.MaxInt: "ERR 9223372036854775807", math.MinInt: "ERR -9223372036854775808",
	} {
		if s := Errs(e); s != want {
			t.Errorf("Errs(%d): %q, not %q", int(e), s, want)
		}
	}
}

// room tells l with all that there is behind it.
func room[T any](l []T) []T {
	return l[:cap(l)]
}

// fill writes x to all of l, and behind it.
func fill[T any](l []T, x T) {
	for i := range room(l) {
		room(l)[i] = x
	}
}

// TestHandedIn: lists are neither changed nor kept, nor what stands behind them.
func TestHandedIn(t *testing.T) {
	var lines [][]string
	for _, x := range examples() {
		lines = append(lines, x.args)
	}
	lines = append(lines, nil, []string{"NONE", "x"}, []string{"TAKE", "-"}, []string{"TAKE", "a//b", "p:0:1"}, []string{"TAKE", "a", "p:0:1:"}, append([]string{"PEEK", "-"}, slices.Repeat([]string{"p:0:1"}, 21)...))
	for _, line := range lines {
		want, errno := Parse(line...)
		l := append(make([]string, 0, 40), line...)
		ahead := slices.Clone(room(l))
		c, e := Parse(l...)
		if !slices.Equal(room(l), ahead) {
			t.Fatalf("%q, not %q", room(l), ahead)
		}
		fill(l, "spoilt")
		if !alike(c, want) || e != errno {
			t.Fatalf("%q: %+v, %d", line, c, e)
		}
	}
	for _, x := range examples() {
		c := x.want
		c.Path = append(make([]string, 0, 20), c.Path...)
		c.Wishes = append(make([]api.Wish, 0, 30), c.Wishes...)
		path, wishes := slices.Clone(room(c.Path)), slices.Clone(room(c.Wishes))
		l := Print(c)
		Same(c, c)
		if !slices.Equal(room(c.Path), path) || !slices.Equal(room(c.Wishes), wishes) {
			t.Fatalf("%+v", c)
		}
		fill(c.Path, "spoilt")
		fill(c.Wishes, api.Wish{Name: "spoilt"})
		if !slices.Equal(l, x.args) {
			t.Fatalf("%q, not %q", l, x.args)
		}
	}
}

// TestSpoilt: whatever becomes of what came out, of it and of the room behind it, changes nothing else.
func TestSpoilt(t *testing.T) {
	for _, x := range examples() {
		one, _ := Parse(x.args...)
		other, _ := Parse(x.args...)
		path, wishes := one.Path, one.Wishes
		fill(path, "spoilt")
		if !slices.Equal(one.Wishes, x.want.Wishes) || !alike(other, x.want) {
			t.Fatalf("%+v, %+v", one, other)
		}
		fill(wishes, api.Wish{Name: "spoilt"})
		if !alike(other, x.want) {
			t.Fatalf("%+v, not %+v", other, x.want)
		}
		checkBoth(t, x.want, x.args...)
		l, m := Print(x.want), Print(x.want)
		fill(l, "spoilt")
		if !slices.Equal(m, x.args) {
			t.Fatalf("%q, not %q", m, x.args)
		}
		checkBoth(t, x.want, x.args...)
	}
	// What could be made once and told again and again.
	for _, line := range []string{"TAKE - p:0:1", "TAKE a p:0:1", "COMMIT 1 0", "COMMIT 1", "PING"} {
		c, _ := Parse(args(line)...)
		fill(append(c.Path, "x"), "spoilt")
		fill(append(c.Wishes, api.Wish{}), api.Wish{Name: "spoilt"})
		fill(Print(c), "spoilt")
		c, _ = Parse(args(line)...)
		checkPrint(t, c, args(line)...)
	}
}

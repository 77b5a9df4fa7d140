package command

import (
	"fmt"
	"math/big"
	"regexp"
	"slices"
	"strconv"
	"strings"
	"testing"

	"tapster/api"
)

var (
	wholeNumber = regexp.MustCompile(`^(0|-?[1-9][0-9]*)$`)
	wholeName   = regexp.MustCompile(`^[a-zA-Z0-9._-]{1,40}$`)
	wholeWish   = regexp.MustCompile(`(?s)^([^:]*):([^:]*):([^:]*)$`)
)

// lowest and highest are the bounds of any number.
const (
	lowest  = "-9223372036854775808"
	highest = "9223372036854775807"
	maxTime = "9007199254740992"
)

// reading is a plain reading of the chapter: all that is wrong, in the order of the arguments.
type reading struct {
	faults []api.Errno
}

func (r *reading) must(ok bool, errno api.Errno) {
	if !ok {
		r.faults = append(r.faults, errno)
	}
}

func (r *reading) number(text, least, most string) int {
	read := func(s string) *big.Int {
		n, _ := new(big.Int).SetString(s, 10)
		return n
	}
	ok := wholeNumber.MatchString(text) && read(text).Cmp(read(least)) >= 0 && read(text).Cmp(read(most)) <= 0
	r.must(ok, api.ErrArg)
	if !ok {
		return 0
	}
	return int(read(text).Int64())
}

func (r *reading) name(text string) string {
	r.must(wholeName.MatchString(text), api.ErrArg)
	return text
}

func (r *reading) key(text string) string {
	r.must(len(text) >= 1 && len(text) <= 100, api.ErrArg)
	return text
}

func (r *reading) path(text string) []string {
	if text == "-" {
		return nil
	}
	parts := strings.Split(text, "/")
	r.must(len(parts) <= 8, api.ErrLong)
	r.must(!slices.ContainsFunc(parts, func(s string) bool { return len(s) > 100 }), api.ErrLong)
	r.must(!slices.Contains(parts, ""), api.ErrArg)
	return parts
}

func (r *reading) wishes(l []string) []api.Wish {
	r.must(len(l) <= 20, api.ErrLong)
	var wishes []api.Wish
	for _, text := range l {
		m := wholeWish.FindStringSubmatch(text)
		r.must(m != nil, api.ErrArg)
		if m != nil {
			wishes = append(wishes, api.Wish{Name: r.name(m[1]), Deep: r.number(m[2], "0", "8"), Cost: r.number(m[3], "1", "1048576")})
		}
	}
	return wishes
}

func (r *reading) policy(l []string) api.Policy {
	const most = "1099511627776"
	p := api.Policy{Kind: r.number(l[0], "1", "4"), Limit: r.number(l[1], "0", most), Period: r.number(l[2], "0", most), Burst: r.number(l[3], "0", most), Cap: r.number(l[4], "0", most), Open: r.number(l[5], "0", "1") == 1}
	r.must(mayBe(p), api.ErrArg)
	return p
}

// command reads what stands behind a name, of as many arguments as it has.
func (r *reading) command(name string, l []string) api.Command {
	switch name {
	case "PING":
		return api.Command{Kind: 1}
	case "POLICY":
		return api.Command{Kind: 2, Name: r.name(l[0]), Policy: r.policy(l[1:])}
	case "DROP":
		return api.Command{Kind: 3, Name: r.name(l[0])}
	case "TAKE":
		return api.Command{Kind: 4, Path: r.path(l[0]), Wishes: r.wishes(l[1:])}
	case "PEEK":
		return api.Command{Kind: 5, Path: r.path(l[0]), Wishes: r.wishes(l[1:])}
	case "RESERVE":
		return api.Command{Kind: 6, N: r.number(l[0], "0", maxTime), Path: r.path(l[1]), Wishes: r.wishes(l[2:])}
	case "COMMIT":
		c := api.Command{Kind: 7, N: r.number(l[0], "1", maxTime)}
		for _, most := range l[1:] {
			c.Wishes = append(c.Wishes, api.Wish{Cost: r.number(most, "0", "1048576")})
		}
		return c
	case "CANCEL":
		return api.Command{Kind: 8, N: r.number(l[0], "1", maxTime)}
	case "SET":
		return api.Command{Kind: 9, Name: r.key(l[0]), N: r.number(l[1], lowest, highest)}
	case "GET":
		return api.Command{Kind: 10, Name: r.key(l[0])}
	case "INCRBY":
		return api.Command{Kind: 11, Name: r.key(l[0]), N: r.number(l[1], lowest, highest)}
	case "DEL":
		return api.Command{Kind: 12, Name: r.key(l[0])}
	case "EXPIRE":
		return api.Command{Kind: 13, Name: r.key(l[0]), N: r.number(l[1], "0", maxTime)}
	case "TTL":
		return api.Command{Kind: 14, Name: r.key(l[0])}
	default:
		return api.Command{Kind: 15}
	}
}

// capital is text with A to Z for a to z.
func capital(text string) string {
	for c := 'a'; c <= 'z'; c++ {
		text = strings.ReplaceAll(text, string(c), string(c-32))
	}
	return text
}

// plain tells what arguments ask for, or the first of all that is wrong with them.
func plain(args []string) (api.Command, api.Errno) {
	if len(args) == 0 {
		return api.Command{}, api.ErrUnknown
	}
	name, count := capital(args[0]), len(args)-1
	has, known := arities()[name]
	if !known {
		return api.Command{}, api.ErrUnknown
	}
	if count < has.least || count > has.most {
		return api.Command{}, api.ErrArity
	}
	r := reading{}
	c := r.command(name, args[1:])
	if len(r.faults) > 0 {
		return api.Command{}, r.faults[0]
	}
	return c, api.OK
}

// line tells the arguments of a Command, whether it may be or not; what its Kind has not isn't asked.
func line(c api.Command) []string {
	n := strconv.Itoa(c.N)
	path := strings.Join(c.Path, "/")
	if len(c.Path) == 0 {
		path = "-"
	}
	var wishes, costs []string
	for _, x := range c.Wishes {
		wishes = append(wishes, fmt.Sprintf("%s:%d:%d", x.Name, x.Deep, x.Cost))
		costs = append(costs, strconv.Itoa(x.Cost))
	}
	switch c.Kind {
	case 1:
		return []string{"PING"}
	case 2:
		return with(policyLine(c.Policy), 1, c.Name)
	case 3:
		return []string{"DROP", c.Name}
	case 4:
		return append([]string{"TAKE", path}, wishes...)
	case 5:
		return append([]string{"PEEK", path}, wishes...)
	case 6:
		return append([]string{"RESERVE", n, path}, wishes...)
	case 7:
		return append([]string{"COMMIT", n}, costs...)
	case 8:
		return []string{"CANCEL", n}
	case 9:
		return []string{"SET", c.Name, n}
	case 10:
		return []string{"GET", c.Name}
	case 11:
		return []string{"INCRBY", c.Name, n}
	case 12:
		return []string{"DEL", c.Name}
	case 13:
		return []string{"EXPIRE", c.Name, n}
	case 14:
		return []string{"TTL", c.Name}
	case 15:
		return []string{"STATS"}
	default:
		return nil
	}
}

// right tells whether c is one that arguments tell: all that its Kind has may be, and there is nothing else.
func right(c api.Command) bool {
	within := func(n, least, most int) bool { return n >= least && n <= most }
	wish := func(x api.Wish) bool {
		return wholeName.MatchString(x.Name) && within(x.Deep, 0, 8) && within(x.Cost, 1, 1<<20)
	}
	part := func(x string) bool { return within(len(x), 1, 100) && !strings.Contains(x, "/") }
	all := len(c.Path) <= 8 && !slices.Equal(c.Path, []string{"-"}) && within(len(c.Wishes), 1, 20)
	for _, x := range c.Path {
		all = all && part(x)
	}
	for _, x := range c.Wishes {
		all = all && wish(x)
	}
	key, name, time := within(len(c.Name), 1, 100), wholeName.MatchString(c.Name), within(c.N, 0, 1<<53)
	noWishes, noPolicy, noPath := len(c.Wishes) == 0, c.Policy == api.Policy{}, len(c.Path) == 0
	nothing := noWishes && noPolicy && noPath
	switch c.Kind {
	case 1, 15:
		return nothing && c.Name == "" && c.N == 0
	case 2:
		return name && mayBe(c.Policy) && noWishes && noPath && c.N == 0
	case 3:
		return name && nothing && c.N == 0
	case 4, 5:
		return all && noPolicy && c.Name == "" && c.N == 0
	case 6:
		return all && noPolicy && c.Name == "" && time
	case 7:
		most := noWishes || len(c.Wishes) == 1 && c.Wishes[0].Name == "" && c.Wishes[0].Deep == 0 && within(c.Wishes[0].Cost, 0, 1<<20)
		return most && noPolicy && noPath && c.Name == "" && time && c.N > 0
	case 8:
		return nothing && c.Name == "" && time && c.N > 0
	case 9, 11:
		return key && nothing
	case 10, 12, 14:
		return key && nothing && c.N == 0
	case 13:
		return key && nothing && time
	default:
		return false
	}
}

// checkLine holds what is told of arguments against what is plainly read of them; what was parsed is printed as it was, the name in great letters.
func checkLine(t testing.TB, args []string) api.Errno {
	t.Helper()
	want, errno := plain(args)
	checkParse(t, want, errno, args...)
	if errno == api.OK {
		checkPrint(t, want, with(args, 0, capital(args[0]))...)
	}
	return errno
}

// checkCommand holds what is printed of c against what is plainly told of it; what was printed is parsed as it was.
func checkCommand(t testing.TB, c api.Command) bool {
	t.Helper()
	if !right(c) {
		checkPrint(t, c)
		return false
	}
	checkBoth(t, c, line(c)...)
	return true
}

// TestPlainReading holds what all others are held against: it is as the document says, of arguments that are known.
func TestPlainReading(t *testing.T) {
	for _, x := range examples() {
		c, e := plain(x.args)
		if !alike(c, x.want) || e != api.OK || !right(c) || !slices.Equal(line(c), x.args) {
			t.Errorf("%q: %+v, %d, %t, %q", x.args, c, e, right(c), line(c))
		}
	}
	for s, want := range map[string]api.Errno{"": api.ErrUnknown, "FOO": api.ErrUnknown, "ping x": api.ErrArity, "GET": api.ErrArity, "TAKE -": api.ErrArity, "COMMIT 1 2 3": api.ErrArity, "COMMIT 0": api.ErrArg, "COMMIT 1 -1": api.ErrArg, "SET k 01": api.ErrArg, "SET k 9223372036854775808": api.ErrArg, "TAKE a//b p:0:1": api.ErrArg, "TAKE a p:0:0": api.ErrArg, "TAKE a p:9:1": api.ErrArg, "TAKE a/b/c/d/e/f/g/h/i p:0:1": api.ErrLong, "TAKE //////// p:0": api.ErrLong, "RESERVE -1 //////// p:0": api.ErrArg, "POLICY p 5 1 1 1 0 0": api.ErrArg, "TAKE / p": api.ErrArg, "TAKE a" + strings.Repeat(" p", 21): api.ErrLong} {
		if c, e := plain(args(s)); !alike(c, api.Command{}) || e != want {
			t.Errorf("%q: %+v, %d", s, c, e)
		}
	}
}

// scattered draws numbers from 0 to below count, the same in every run.
func scattered() func(count int) int {
	x := uint64(88172645463325252)
	return func(count int) int {
		x ^= x << 13
		x ^= x >> 7
		x ^= x << 17
		return int((x >> 11) % uint64(count))
	}
}

// TestEachByte replaces each byte of each argument of the examples by each other one, leaves it out, and doubles it.
func TestEachByte(t *testing.T) {
	gone := map[api.Errno]int{}
	for _, x := range examples() {
		for i, arg := range x.args {
			for j := range min(len(arg), 30) {
				ahead, behind := arg[:j], arg[j+1:]
				for c := range 256 {
					gone[checkLine(t, with(x.args, i, ahead+string([]byte{byte(c)})+behind))]++
				}
				gone[checkLine(t, with(x.args, i, ahead+behind))]++
				gone[checkLine(t, with(x.args, i, ahead+arg[j:j+1]+arg[j:]))]++
			}
		}
	}
	if gone[api.OK] < 5000 || gone[api.ErrArg] < 5000 || gone[api.ErrUnknown] < 5000 || gone[api.ErrArity] == 0 {
		t.Fatal("too little happened to tell:", gone)
	}
}

// names are all names, in great letters, in small ones, and in both; and such that are none.
func names() []string {
	var l []string
	for _, x := range eachName() {
		small := strings.ToLower(x.args[0])
		l = append(l, x.args[0], small, x.args[0][:1]+small[1:])
	}
	return append(l, "", "PINGS", "NONE", "k")
}

// TestAllSmall goes through all lists of up to three arguments behind a name, of some that may stand somewhere.
func TestAllSmall(t *testing.T) {
	gone := map[api.Errno]int{}
	some := []string{"", "-", "a", "a/b", "/", "0", "1", "-1", "9007199254740992", "9007199254740993", "1048576", "1048577", "p:0:1", "p:8:1048576", "p:0", "9223372036854775808", strings.Repeat("a", 41), strings.Repeat("a", 101), "a/b/c/d/e/f/g/h/i"}
	var try func(args []string, depth int)
	try = func(args []string, depth int) {
		gone[checkLine(t, args)]++
		for _, x := range some {
			if depth > 0 {
				try(append(args, x), depth-1)
			}
		}
	}
	try(nil, 0)
	for _, name := range names() {
		try([]string{name}, 2)
		if name == strings.ToUpper(name) {
			try([]string{name}, 3)
		}
	}
	if gone[api.OK] < 500 || gone[api.ErrArg] < 5000 || gone[api.ErrLong] < 1000 || gone[api.ErrArity] < 5000 || gone[api.ErrUnknown] < 500 {
		t.Fatal("too little happened to tell:", gone)
	}
}

// allTexts tells all texts of up to so many pieces.
func allTexts(count int, pieces ...string) []string {
	l := []string{""}
	for from := 0; count > 0; count-- {
		to := len(l)
		for _, text := range l[from:to] {
			for _, piece := range pieces {
				l = append(l, text+piece)
			}
		}
		from = to
	}
	return l
}

// TestAllPaths goes through all short paths, and all short wishes.
func TestAllPaths(t *testing.T) {
	gone := map[api.Errno]int{}
	for _, text := range allTexts(7, "-", "/", "a") {
		gone[checkLine(t, []string{"TAKE", text, "p:0:1"})]++
	}
	for _, text := range allTexts(5, "a", "/", strings.Repeat("b", 50), "/c/d/e/f") {
		gone[checkLine(t, []string{"RESERVE", "5", text, "p:0:1"})]++
	}
	for _, text := range allTexts(6, "p", ":", "1", "0", "9", "-") {
		gone[checkLine(t, []string{"PEEK", "-", text})]++
	}
	for _, text := range allTexts(5, "-", "0", "1", "9", "a", " ") {
		gone[checkLine(t, []string{"SET", "k", text})]++
		gone[checkLine(t, []string{"COMMIT", "1", text})]++
		gone[checkLine(t, []string{"GET", text})]++
	}
	if gone[api.OK] < 5000 || gone[api.ErrArg] < 5000 || gone[api.ErrLong] < 100 {
		t.Fatal("too little happened to tell:", gone)
	}
}

// one draws one of l.
func one[T any](draw func(count int) int, l ...T) T {
	return l[draw(len(l))]
}

func drawnName(draw func(count int) int) string {
	return one(draw, "p", "q", "p.q", "-", "A_0", strings.Repeat("n", 40), strings.Repeat("n", 41), "", "p:0", "p/q", "\xff", "p q")
}

func drawnKey(draw func(count int) int) string {
	return one(draw, "k", "k:1", "-", "\x00\xff\r\n", strings.Repeat("k", 100), strings.Repeat("k", 101), "", "\u65e5")
}

func drawnNumber(draw func(count int) int, most int) int {
	return one(draw, 0, 1, 2, 5, most-1, most, most, draw(most), draw(most), most+1, -1, -most, 8, 1<<20, 1<<40)
}

func drawnPath(draw func(count int) int) []string {
	var l []string
	for range one(draw, 0, 0, 1, 1, 2, 3, 7, 8, 8, 9, 10) {
		l = append(l, one(draw, "a", "b", "-", "a:b", "\xff", strings.Repeat("c", 100), "a", "b", "c", "d"))
	}
	if len(l) > 0 && draw(6) == 0 {
		l[draw(len(l))] = one(draw, "", "a/b", "/", strings.Repeat("c", 101), "-")
	}
	return l
}

func drawnWishes(draw func(count int) int) []api.Wish {
	var l []api.Wish
	for range one(draw, 1, 1, 1, 2, 3, 4, 19, 20, 21, 0) {
		l = append(l, api.Wish{Name: one(draw, "p", "q", "-"), Deep: draw(9), Cost: 1 + draw(1<<20)})
	}
	if len(l) > 0 && draw(3) == 0 {
		l[draw(len(l))] = api.Wish{Name: drawnName(draw), Deep: drawnNumber(draw, 8), Cost: drawnNumber(draw, 1<<20)}
	}
	return l
}

func drawnPolicy(draw func(count int) int) api.Policy {
	p := api.Policy{Kind: 1 + draw(4), Limit: 1 + draw(1<<20), Period: 1 + draw(1<<40), Open: draw(2) == 0}
	switch p.Kind {
	case 1, 2:
		p.Burst = 1 + draw(1<<20)
	case 3:
		p.Cap = 1 + draw(100)
	}
	if draw(3) == 0 {
		*one(draw, &p.Kind, &p.Limit, &p.Period, &p.Burst, &p.Cap) = drawnNumber(draw, one(draw, 1<<20, 1<<40, 100, 4))
	}
	return p
}

// drawn is any Command: mostly such that has what its Kind has, and nothing else.
func drawn(draw func(count int) int) api.Command {
	c := api.Command{Kind: draw(17)}
	has := func(kinds ...int) bool { return slices.Contains(kinds, c.Kind) || draw(50) == 0 }
	if has(2, 3) {
		c.Name = drawnName(draw)
	}
	if has(9, 10, 11, 12, 13, 14) {
		c.Name = drawnKey(draw)
	}
	if has(2) {
		c.Policy = drawnPolicy(draw)
	}
	if has(4, 5, 6) {
		c.Path = drawnPath(draw)
		c.Wishes = drawnWishes(draw)
	}
	if has(6, 7, 8, 13) {
		c.N = drawnNumber(draw, 1<<53)
	}
	if has(9, 11) {
		c.N = drawnNumber(draw, 1<<62)
	}
	if c.Kind == 7 && draw(2) == 0 {
		c.Wishes = []api.Wish{{Cost: drawnNumber(draw, 1<<20)}}
	}
	return c
}

// spoiltLine is arguments of which one is left out, is twice there, or has something else in it.
func spoiltLine(args []string, draw func(count int) int) []string {
	i := draw(len(args))
	arg := args[i]
	from := draw(len(arg) + 1)
	switch draw(5) {
	case 0:
		return slices.Delete(slices.Clone(args), i, i+1)
	case 1:
		return slices.Insert(slices.Clone(args), i, arg)
	case 2:
		return with(args, i, arg[:from])
	case 3:
		return with(args, i, strings.ToLower(arg))
	default:
		return with(args, i, arg[:from]+one(draw, "", "/", ":", "-", "0", "1", " ", "\x00", "\xff", "a", "99999999", strings.Repeat("a", 100))+arg[from:])
	}
}

// TestAnyInput draws Commands, such that may be and others, and lines of them, whole and spoilt: each call ends, and tells what is plainly told and read.
func TestAnyInput(t *testing.T) {
	gone, kinds := map[api.Errno]int{}, map[int]int{}
	printed := 0
	draw := scattered()
	for range 25000 {
		c := drawn(draw)
		if checkCommand(t, c) {
			printed++
			kinds[c.Kind]++
		}
		l := line(c)
		for range draw(4) {
			if len(l) > 0 {
				gone[checkLine(t, l)]++
				l = spoiltLine(l, draw)
			}
		}
		gone[checkLine(t, l)]++
	}
	if gone[api.OK] < 10000 || gone[api.ErrArg] < 5000 || gone[api.ErrLong] < 1000 || gone[api.ErrArity] < 1000 || gone[api.ErrUnknown] < 1000 || printed < 5000 {
		t.Fatal("too little happened to tell:", gone, printed)
	}
	for kind := 1; kind <= 15; kind++ {
		if kinds[kind] < 200 {
			t.Fatal("too little happened to tell:", kinds)
		}
	}
}

// TestThereAndBack changes each example in one thing alone, and each of these once more: what was printed is parsed as it was, and what no arguments tell has none.
func TestThereAndBack(t *testing.T) {
	gone := map[bool]int{}
	for _, x := range examples() {
		gone[checkCommand(t, x.want)]++
		for _, y := range others(x.want) {
			gone[checkCommand(t, y)]++
			for i, z := range others(y) {
				if i%7 == 0 {
					gone[checkCommand(t, z)]++
				}
			}
		}
	}
	for kind := range 17 {
		for _, x := range examples() {
			x.want.Kind = kind
			gone[checkCommand(t, x.want)]++
		}
	}
	if gone[true] < 2000 || gone[false] < 10000 {
		t.Fatal("too little happened to tell:", gone)
	}
}

func FuzzCommand(f *testing.F) {
	for _, x := range examples() {
		f.Add(strings.Join(x.args, "\n"))
	}
	for _, name := range names() {
		f.Add(name)
	}
	f.Fuzz(func(t *testing.T, text string) {
		l := strings.Split(text, "\n")
		checkLine(t, l)
		// The same as a Command, of whatever can be made of it.
		c := api.Command{Kind: len(text) % 17, Path: l}
		c.Name, c.Path = l[0], l[1:]
		checkCommand(t, c)
		if p, e := Parse(l...); e == api.OK {
			for _, x := range others(p) {
				checkCommand(t, x)
			}
		}
	})
}

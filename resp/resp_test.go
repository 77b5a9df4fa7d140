package resp

import (
	"bytes"
	"slices"
	"strconv"
	"strings"
	"testing"

	"tapster/api"
)

// get and ping are two commands' bytes, as they stand in the document.
const (
	get  = "*2\r\n$3\r\nGET\r\n$1\r\na\r\n"
	ping = "*1\r\n$4\r\nPING\r\n"
)

// commands are lists of arguments, one behind the other.
type commands [][]string

// sameCommands tells whether both are the same arguments, in the same order.
func sameCommands(a, b commands) bool {
	return slices.EqualFunc(a, b, func(x, y []string) bool { return slices.Equal(x, y) })
}

// row is the bytes of commands, one behind the other.
func row(l ...[]string) string {
	var b []byte
	for _, args := range l {
		b = append(b, Command(args...)...)
	}
	return string(b)
}

// times is one argument as often as that.
func times(count int, x string) []string {
	return slices.Repeat([]string{x}, count)
}

// long is an argument of as many bytes, no two of which behind one another are the same.
func long(count int) string {
	return strings.Repeat("0123456789abcdef", count/16+1)[:count]
}

// strange are arguments that look like what stands around them.
func strange() []string {
	return []string{"", "\r", "\n", "\r\n", "\n\r", "\r\r", "\n\n", "\r\n\r\n", "*", "$", "*1", "$1", "*1\r\n", "$0\r\n\r\n", get, ping, "*0\r\n", "$-1\r\n", "+OK\r\n", "0", "00", "007", "-1", " ", "\x00", "\x00\x00", "a\x00b", "\x7f", "\x80", "\xff", "\xff\xfe\r\n", "\u00e9", "\u65e5\r\n", "a\r\nb", "\r\na", "a\r\n"}
}

func checkFeed(t testing.TB, when string, r *Reader, piece string, errno api.Errno, want ...[]string) {
	t.Helper()
	told, e := r.Feed([]byte(piece))
	if e != errno || !sameCommands(told, want) {
		t.Fatalf("%s: Feed(%q): %q, %d, not %q, %d", when, piece, told, e, want, errno)
	}
}

// checkState holds what a Reader tells of what it was fed.
func checkState(t testing.TB, when string, r *Reader, left int, wrong bool) {
	t.Helper()
	if r.Left() != left || r.Wrong() != wrong {
		t.Fatalf("%s: Left %d, Wrong %t, not %d, %t", when, r.Left(), r.Wrong(), left, wrong)
	}
}

func checkWhole(t testing.TB, row string, taken int, errno api.Errno, want ...[]string) {
	t.Helper()
	told, n, e := Whole([]byte(row))
	if n != taken || e != errno || !sameCommands(told, want) {
		t.Fatalf("Whole(%q): %q, %d, %d, not %q, %d, %d", row, told, n, e, want, taken, errno)
	}
}

// checkWrongAt holds that row is wrong by the byte at that place, not by one ahead of it, and tells the commands ahead of that.
func checkWrongAt(t testing.TB, row string, place int, want ...[]string) {
	t.Helper()
	r := New()
	var told commands
	for i := range len(row) {
		l, e := r.Feed([]byte(row[i : i+1]))
		told = append(told, l...)
		if wrong := i >= place; r.Wrong() != wrong || (e == api.ErrProto) != wrong {
			t.Fatalf("%q, byte %d: %d, Wrong %t, not at %d", row, i, e, r.Wrong(), place)
		}
	}
	if place >= len(row) {
		t.Fatalf("%q has no byte %d", row, place)
	}
	if !sameCommands(told, want) {
		t.Fatalf("%q: %q, not %q", row, told, want)
	}
	taken := 0
	for _, args := range want {
		taken += len(Command(args...))
	}
	checkWhole(t, row, taken, api.ErrProto, want...)
	checkWhole(t, row[:place+1], taken, api.ErrProto, want...)
	checkWhole(t, row[:place], taken, api.OK, want...)
}

// checkBegin holds that row is the begin of a command, of which nothing is whole.
func checkBegin(t testing.TB, row string) {
	t.Helper()
	checkWhole(t, row, 0, api.OK)
	r := New()
	checkFeed(t, "begin", r, row, api.OK)
	checkState(t, row, r, len(row), false)
}

func TestExample(t *testing.T) {
	if b := Command("GET", "a"); string(b) != get {
		t.Fatalf("%q", b)
	}
	checkWhole(t, get, len(get), api.OK, []string{"GET", "a"})
	r := New()
	checkFeed(t, "example", r, "*0", api.ErrProto)
	checkState(t, "example", r, 0, true)
}

func TestMay(t *testing.T) {
	most, more := long(api.MaxArg), long(api.MaxArg+1)
	for _, x := range []struct {
		args []string
		may  bool
	}{
		{nil, false}, {[]string{}, false},
		{times(1, ""), true}, {times(1, "a"), true}, {times(2, "a"), true},
		{times(49, "a"), true}, {times(50, "a"), true}, {times(51, "a"), false}, {times(52, "a"), false}, {times(100, ""), false}, {times(1000, "a"), false},
		{times(50, ""), true}, {times(51, ""), false},
		{times(1, long(999)), true}, {times(1, most), true}, {times(1, more), false}, {times(1, long(10000)), false},
		{times(50, most), true}, {times(51, most), false}, {times(50, more), false},
		{[]string{more, "a"}, false}, {[]string{"a", more}, false}, {[]string{"a", more, "a"}, false}, {[]string{most, "", most}, true},
		{append(times(49, "a"), more), false}, {append(times(49, "a"), most), true},
		{times(1, strings.Repeat("\r\n", 500)), true}, {times(1, strings.Repeat("\u65e5", 333)), true}, {times(1, strings.Repeat("\u65e5", 334)), false},
		{times(1, strings.Repeat("\x00", 1000)), true}, {times(1, strings.Repeat("\xff", 1001)), false},
		{strange(), true},
	} {
		if May(x.args...) != x.may {
			t.Errorf("May of %d arguments, %.40q: not %t", len(x.args), x.args, x.may)
		}
	}
	for _, x := range strange() {
		if !May(x) || !May(x, x) {
			t.Errorf("May(%q): not", x)
		}
	}
}

func TestCommand(t *testing.T) {
	for _, x := range []struct {
		args []string
		want string
	}{
		{nil, "*0\r\n"}, {[]string{}, "*0\r\n"},
		{times(1, ""), "*1\r\n$0\r\n\r\n"}, {times(2, ""), "*2\r\n$0\r\n\r\n$0\r\n\r\n"},
		{times(1, "PING"), ping}, {[]string{"GET", "a"}, get}, {[]string{"a", "GET"}, "*2\r\n$1\r\na\r\n$3\r\nGET\r\n"},
		{times(50, "a"), "*50\r\n" + strings.Repeat("$1\r\na\r\n", 50)},
		{times(51, "a"), "*51\r\n" + strings.Repeat("$1\r\na\r\n", 51)},
		{times(1234, ""), "*1234\r\n" + strings.Repeat("$0\r\n\r\n", 1234)},
		{times(1, long(9)), "*1\r\n$9\r\n" + long(9) + "\r\n"}, {times(1, long(10)), "*1\r\n$10\r\n" + long(10) + "\r\n"},
		{times(1, long(999)), "*1\r\n$999\r\n" + long(999) + "\r\n"},
		{times(1, long(1000)), "*1\r\n$1000\r\n" + long(1000) + "\r\n"},
		{times(1, long(1001)), "*1\r\n$1001\r\n" + long(1001) + "\r\n"},
		{times(2, long(12345)), "*2\r\n" + strings.Repeat("$12345\r\n"+long(12345)+"\r\n", 2)},
		{[]string{"\r\n", "*1", "$"}, "*3\r\n$2\r\n\r\n\r\n$2\r\n*1\r\n$1\r\n$\r\n"},
		{[]string{"\u65e5"}, "*1\r\n$3\r\n\xe6\x97\xa5\r\n"}, {[]string{"\xff\x00"}, "*1\r\n$2\r\n\xff\x00\r\n"},
		{[]string{get}, "*1\r\n$20\r\n" + get + "\r\n"},
	} {
		if got := string(Command(x.args...)); got != x.want {
			t.Errorf("Command of %d arguments, %.40q: %.80q, not %.80q", len(x.args), x.args, got, x.want)
		}
	}
}

// TestCommandRead: a command of arguments that May be is told as these; none of others is ever whole.
func TestCommandRead(t *testing.T) {
	for _, args := range [][]string{
		times(1, ""), times(1, "a"), times(2, ""), times(49, "b"), times(50, ""), times(50, "c"), times(1, long(999)), times(1, long(1000)), times(50, long(1000)),
		strange(), {get, ping}, {"", "a", ""}, {"a", "", "b"}, {long(1000), "", long(1)},
	} {
		b := row(args)
		checkWhole(t, b, len(b), api.OK, args)
		checkWhole(t, b+b, 2*len(b), api.OK, args, args)
		checkBegin(t, b[:len(b)-1])
	}
	for _, x := range strange() {
		b := row(times(1, x))
		checkWhole(t, b, len(b), api.OK, times(1, x))
		b = row([]string{"a", x, x, "b"})
		checkWhole(t, b, len(b), api.OK, []string{"a", x, x, "b"})
	}
	checkWrongAt(t, row(nil), len("*"))
	checkWrongAt(t, row(times(51, "a")), len("*5"))
	checkWrongAt(t, row(times(60, "a")), len("*6"))
	checkWrongAt(t, row(times(100, "a")), len("*10"))
	checkWrongAt(t, row(times(1, long(1001))), len("*1\r\n$100"))
	checkWrongAt(t, row(times(1, long(1010))), len("*1\r\n$101"))
	checkWrongAt(t, row(times(1, long(10000))), len("*1\r\n$1000"))
	checkWrongAt(t, row([]string{"a", long(2000)}), len("*2\r\n$1\r\na\r\n$200"))
}

// numberPlaces are, of texts that are to be read as a number of a head, the place of the first byte that is wrong; of those without one, as many as they have bytes.
type numberPlaces map[string]int

// check holds the texts behind what stands ahead of a number, with 0d 0a behind.
func (l numberPlaces) check(t *testing.T, ahead string) {
	for text, place := range l {
		b := ahead + text + "\r\n"
		if place < len(text) {
			checkWrongAt(t, b, len(ahead)+place)
			checkWrongAt(t, ahead+text, len(ahead)+place)
			continue
		}
		if text == "" {
			checkWrongAt(t, b, len(ahead))
			continue
		}
		for i := range len(b) + 1 {
			checkBegin(t, b[:i])
		}
	}
}

func TestCounts(t *testing.T) {
	l := numberPlaces{
		"": 0, "0": 0, "00": 0, "01": 0, "007": 0, "050": 0, "-": 0, "-1": 0, "-0": 0, "+1": 0, " 1": 0, "a": 0, "1 ": 1, "1a": 1, "1-": 1, "1.0": 1, "1e1": 1, "0x1": 0, "1_0": 1, "\x00": 0, "1\x00": 1, "\xff": 0, "1\x80": 1, "\uff11": 0,
		"51": 1, "52": 1, "59": 1, "60": 1, "66": 1, "70": 1, "90": 1, "99": 1, "100": 2, "101": 2, "110": 2, "500": 2, "501": 2, "490": 2, "1000": 2, "5000": 2,
		"18446744073709551617": 2, "4294967297": 2, "9223372036854775808": 1, "10000000000000000000000000000000000000001": 2,
	}
	for n := 1; n <= 50; n++ {
		l[strconv.Itoa(n)] = len(strconv.Itoa(n))
	}
	l.check(t, "*")
}

func TestLengths(t *testing.T) {
	l := numberPlaces{
		"": 0, "00": 1, "01": 1, "007": 1, "0100": 1, "-": 0, "-1": 0, "-0": 0, "+1": 0, " 1": 0, "a": 0, "1 ": 1, "1a": 1, "1-": 1, "0-": 1, "0x": 1, "1.0": 1, "1e3": 1, "1_0": 1, "\x00": 0, "0\x00": 1, "1\x00": 1, "\xff": 0, "1\x80": 1, "\uff11": 0,
		"1001": 3, "1002": 3, "1009": 3, "1010": 3, "1100": 3, "1999": 3, "2000": 3, "5000": 3, "9000": 3, "9999": 3, "10000": 4, "10001": 4, "100000": 4, "1000a": 4, "999a": 3,
		"18446744073709551616": 3, "4294967296": 3, "10000000000000000000000000000000000000001": 4,
	}
	for n := range 1001 {
		l[strconv.Itoa(n)] = len(strconv.Itoa(n))
	}
	l.check(t, "*1\r\n$")
	l.check(t, "*50\r\n$")
	short := numberPlaces{"": 0, "0": 1, "00": 1, "1": 1, "10": 2, "1000": 4, "1001": 3, "-1": 0, "9999": 3}
	for text, place := range short {
		b := ping + "*2\r\n$1\r\na\r\n$" + text + "\r\n"
		if ahead := len(b) - len(text) - 2; place < len(text) || text == "" {
			checkWrongAt(t, b, ahead+place, []string{"PING"})
			continue
		}
		checkWhole(t, b, len(ping), api.OK, []string{"PING"})
	}
}

// TestEnds: 0d 0a stands behind each number and each argument, whole, and the right way round.
func TestEnds(t *testing.T) {
	for _, ahead := range []string{"*1", "*50", "*1\r\n$0", "*1\r\n$1000", "*1\r\n$1\r\na", "*1\r\n$0\r\n", "*2\r\n$2\r\n\r\n", "*2\r\n$1\r\na\r\n$0", "*2\r\n$0\r\n\r\n$3\r\n\x00\r\n"} {
		n := len(ahead)
		checkBegin(t, ahead)
		checkBegin(t, ahead+"\r")
		for _, x := range []string{"\n", "\n\r", " ", "a", "*", "$", "\x00", "\xff", "\x8d"} {
			checkWrongAt(t, ahead+x+"\r\n*", n)
		}
		for _, x := range []string{"\r", " ", "a", "0", "*", "$", "\x00", "\xff", "\x8a"} {
			checkWrongAt(t, ahead+"\r"+x+"\r\n*", n+1)
		}
	}
}

// TestSigns: a command begins with *, an argument with $, and nothing else does.
func TestSigns(t *testing.T) {
	for c := range 256 {
		s := string([]byte{byte(c)})
		if c != '*' {
			checkWrongAt(t, s+"1\r\n$0\r\n\r\n", 0)
			checkWrongAt(t, ping+s, len(ping), []string{"PING"})
		}
		if c != '$' {
			checkWrongAt(t, "*1\r\n"+s+"0\r\n\r\n", len("*1\r\n"))
			checkWrongAt(t, "*2\r\n$1\r\na\r\n"+s+"0\r\n\r\n", len("*2\r\n$1\r\na\r\n"))
		}
	}
	for _, s := range []string{"PING\r\n", "\r\n", "\r\n" + ping, " " + ping, "+OK\r\n", "-ERR\r\n", ":1\r\n", "$4\r\nPING\r\n"} {
		checkWrongAt(t, s, 0)
	}
}

// TestBytesOfArguments: an argument may be of any bytes, as many as it was said to be.
func TestBytesOfArguments(t *testing.T) {
	for c := range 256 {
		s := string([]byte{byte(c)})
		b := "*2\r\n$1\r\n" + s + "\r\n$3\r\n" + s + s + s + "\r\n"
		checkWhole(t, b, len(b), api.OK, []string{s, s + s + s})
		if c != '\r' {
			checkWrongAt(t, "*1\r\n$1\r\na"+s+"\r\n", len("*1\r\n$1\r\na"))
			checkWrongAt(t, "*1\r\n$0\r\n"+s+"\r\n", len("*1\r\n$0\r\n"))
		}
	}
	checkWrongAt(t, "*1\r\n$2\r\na\r\n", len("*1\r\n$2\r\na\r"))
	checkWrongAt(t, "*1\r\n$3\r\na\r\n*1\r\n", len("*1\r\n$3\r\na\r\n"))
	checkWrongAt(t, "*1\r\n$4\r\na\r\n\r\n*", len("*1\r\n$4\r\na\r\n\r"))
	checkWhole(t, "*1\r\n$3\r\na\r\n\r\n*", len("*1\r\n$3\r\na\r\n\r\n"), api.OK, []string{"a\r\n"})
}

// TestFewerAndMore: as many arguments as were said come, no more and no fewer.
func TestFewerAndMore(t *testing.T) {
	one := "$1\r\na\r\n"
	for count := 1; count <= 50; count++ {
		head := "*" + strconv.Itoa(count) + "\r\n"
		for n := range count {
			checkBegin(t, head+strings.Repeat(one, n))
			checkWrongAt(t, head+strings.Repeat(one, n)+ping, len(head)+n*len(one))
		}
		b := head + strings.Repeat(one, count)
		checkWhole(t, b, len(b), api.OK, times(count, "a"))
		checkWrongAt(t, b+one, len(b), times(count, "a"))
	}
}

func TestWrongBehind(t *testing.T) {
	getArgs, pingArgs := []string{"GET", "a"}, []string{"PING"}
	for _, wrong := range []string{"+", "\r", "\n", "\r\n", "$1\r\na\r\n", "*0\r\n", "*\r\n", "*-1\r\n", "*01\r\n", "*51\r\n", "*1\n", "*1\r\r\n", "*1\r\n*1\r\n", "*1\r\n$01\r\n", "*1\r\n$-1\r\n", "*1\r\n$1001\r\n", "*1\r\n$1\r\nab\r\n", "*1\r\n$1\r\na\r\r"} {
		checkWhole(t, wrong, 0, api.ErrProto)
		checkWhole(t, get+wrong, len(get), api.ErrProto, getArgs)
		checkWhole(t, get+ping+wrong+ping, len(get+ping), api.ErrProto, getArgs, pingArgs)
		checkWhole(t, strings.Repeat(get, 100)+wrong+get, 100*len(get), api.ErrProto, slices.Repeat([][]string{getArgs}, 100)...)
		r := New()
		checkFeed(t, "ahead", r, get+ping, api.OK, getArgs, pingArgs)
		checkFeed(t, "with what is wrong", r, get+ping+wrong+get, api.ErrProto, getArgs, pingArgs)
		checkState(t, "behind what is wrong", r, 0, true)
		checkFeed(t, "behind what is wrong", r, get, api.ErrProto)
	}
	// In the middle of the second one.
	for i := range len(get) {
		b := []byte(get + get)
		b[len(get)+i] ^= 0x40
		if slices.Contains([]string{"G", "E", "T", "a"}, get[i:i+1]) {
			checkWhole(t, string(b), len(b), api.OK, getArgs, []string{string(b[len(get)+8 : len(get)+11]), string(b[len(get)+17 : len(get)+18])})
			continue
		}
		checkWrongAt(t, string(b), len(get)+i, getArgs)
	}
}

// TestStaysWrong: from then on nothing is told, whatever is fed, not even that which would have been right in its place.
func TestStaysWrong(t *testing.T) {
	for _, begin := range []string{"*1\r\n$1\r\na", "*1\r\n", "", "*1\r\n$100", ping} {
		for _, behind := range []string{"", "\r\n", "*", get, ping + ping, "+", strings.Repeat("\x00", 3000)} {
			r := New()
			checkFeed(t, "a part", r, begin+"\n", api.ErrProto, slices.Repeat([][]string{{"PING"}}, strings.Count(begin, "PING"))...)
			for range 3 {
				checkFeed(t, "wrong", r, behind, api.ErrProto)
				checkState(t, "wrong", r, 0, true)
				checkFeed(t, "wrong", r, "", api.ErrProto)
				if l, e := r.Feed(nil); len(l) > 0 || e != api.ErrProto {
					t.Fatal(l, e)
				}
				checkState(t, "wrong", r, 0, true)
			}
		}
	}
}

// TestNoBytes: Feed of none tells nothing, and changes nothing.
func TestNoBytes(t *testing.T) {
	nothing := func(r *Reader, errno api.Errno, left int) {
		t.Helper()
		for _, b := range [][]byte{nil, {}, make([]byte, 0, 5), []byte(get)[:0]} {
			if l, e := r.Feed(b); len(l) > 0 || e != errno {
				t.Fatal(l, e)
			}
			checkState(t, "no bytes", r, left, errno != api.OK)
		}
	}
	r := New()
	nothing(r, api.OK, 0)
	for i := range len(get) - 1 {
		checkFeed(t, "one", r, get[i:i+1], api.OK)
		nothing(r, api.OK, i+1)
	}
	checkFeed(t, "the last one", r, "\n", api.OK, []string{"GET", "a"})
	nothing(r, api.OK, 0)
	checkFeed(t, "wrong", r, "\n", api.ErrProto)
	nothing(r, api.ErrProto, 0)
	checkWhole(t, "", 0, api.OK)
	if l, n, e := Whole(nil); len(l) > 0 || n != 0 || e != api.OK {
		t.Fatal(l, n, e)
	}
}

// TestTold: a command is told by the Feed that makes it whole, once, and in order.
func TestTold(t *testing.T) {
	a, b, c := []string{"a"}, []string{"b", ""}, []string{"", "c", "\r\n"}
	all := row(a, b, c)
	r := New()
	checkFeed(t, "three", r, all, api.OK, a, b, c)
	checkFeed(t, "three and a part", r, all+all[:5], api.OK, a, b, c)
	checkState(t, "a part", r, 5, false)
	checkFeed(t, "the rest, and one more", r, all[5:]+row(c), api.OK, a, b, c, c)
	checkFeed(t, "all but the last byte", r, row(a, a)[:len(row(a, a))-1], api.OK, a)
	checkFeed(t, "the last byte", r, "\n", api.OK, a)
	checkFeed(t, "no bytes", r, "", api.OK)
	checkFeed(t, "many of the same", r, strings.Repeat(row(b), 1000), api.OK, slices.Repeat([][]string{b}, 1000)...)
	checkState(t, "all whole", r, 0, false)
	for i := range len(all) {
		r := New()
		want := commands{a, b, c}
		whole := 0
		for n, end := range []int{len(row(a)), len(row(a, b)), len(all)} {
			if i >= end {
				whole = n + 1
			}
		}
		checkFeed(t, "ahead of the cut", r, all[:i], api.OK, want[:whole]...)
		checkFeed(t, "behind the cut", r, all[i:], api.OK, want[whole:]...)
	}
}

// TestLeft holds what is left behind each begin of several commands.
func TestLeft(t *testing.T) {
	all := get + ping + row(strange()) + get
	ends := []int{0, len(get), len(get + ping), len(all) - len(get), len(all)}
	for i := range len(all) + 1 {
		r := New()
		if _, e := r.Feed([]byte(all[:i])); e != api.OK {
			t.Fatal(i, e)
		}
		end := 0
		for _, x := range ends {
			if x <= i {
				end = x
			}
		}
		checkState(t, "a begin", r, i-end, false)
		l, n, e := Whole([]byte(all[:i]))
		if n != end || e != api.OK || len(l) != slices.Index(ends, end) {
			t.Fatal(i, len(l), n, e)
		}
		checkFeed(t, "wrong", r, "x"+strings.Repeat("\n", 1001), api.ErrProto)
		checkState(t, "wrong", r, 0, true)
	}
}

func TestWhole(t *testing.T) {
	getArgs, pingArgs := []string{"GET", "a"}, []string{"PING"}
	checkWhole(t, "", 0, api.OK)
	checkWhole(t, get, len(get), api.OK, getArgs)
	checkWhole(t, get+ping, len(get+ping), api.OK, getArgs, pingArgs)
	checkWhole(t, ping+get+ping+"*", len(ping+get+ping), api.OK, pingArgs, getArgs, pingArgs)
	for i := range len(ping) {
		checkWhole(t, get+ping[:i], len(get), api.OK, getArgs)
		checkWhole(t, ping[:i], 0, api.OK)
	}
	checkWhole(t, "*0", 0, api.ErrProto)
	checkWhole(t, get+"*0"+ping, len(get), api.ErrProto, getArgs)
	checkWhole(t, get+ping[:5]+"\n"+ping, len(get), api.ErrProto, getArgs)
	// Nothing is left of a call to the next one.
	checkWhole(t, ping[5:], 0, api.ErrProto)
	checkWhole(t, ping, len(ping), api.OK, pingArgs)
}

// room tells l with all that there is behind it.
func room[T any](l []T) []T {
	return l[:cap(l)]
}

// fill writes x to all of l, and behind it.
func fill[T any](l []T, x T) {
	for i := range room(l) {
		room(l)[i] = x
	}
}

// TestHandedIn: bytes and arguments are neither changed nor kept, nor what stands behind them.
func TestHandedIn(t *testing.T) {
	all := get + row(strange()) + ping
	want := commands{{"GET", "a"}, strange(), {"PING"}}
	for _, size := range []int{1, 2, 3, 7, 50, len(all)} {
		// One list of bytes is written over for each Feed, as one that is read into is.
		b := make([]byte, size, size+20)
		r := New()
		var told commands
		for rest := all; rest != ""; {
			fill(b, '*')
			n := copy(b, rest)
			rest = rest[n:]
			ahead := bytes.Clone(room(b))
			l, e := r.Feed(b[:n])
			if e != api.OK || !bytes.Equal(room(b), ahead) {
				t.Fatalf("%d, %q, not %q", e, room(b), ahead)
			}
			told = append(told, l...)
			fill(b, 'x')
		}
		if !sameCommands(told, want) {
			t.Fatalf("%d at a time: %q", size, told)
		}
	}
	for _, s := range []string{all, all + "*1", all + "+", "\n" + all} {
		b := append(make([]byte, 0, len(s)+20), s...)
		ahead := bytes.Clone(room(b))
		l, n, _ := Whole(b)
		if !bytes.Equal(room(b), ahead) {
			t.Fatalf("%q, not %q", room(b), ahead)
		}
		fill(b, 'x')
		if s[0] == '*' && (n != len(all) || !sameCommands(l, want)) {
			t.Fatalf("%q: %q, %d", s, l, n)
		}
	}
	args := append(make([]string, 0, 60), strange()...)
	ahead := slices.Clone(room(args))
	b := Command(args...)
	if !May(args...) || !slices.Equal(room(args), ahead) {
		t.Fatalf("%q, not %q", room(args), ahead)
	}
	fill(args, "x")
	checkWhole(t, string(b), len(b), api.OK, strange())
}

// TestSpoilt: whatever becomes of what came out, of it and of the room behind it, changes nothing else.
func TestSpoilt(t *testing.T) {
	all := get + ping + row(strange())
	r := New()
	for range 3 {
		var last commands
		for i := 0; i < len(all); i += 9 {
			piece := all[i:min(i+9, len(all))]
			l, e := r.Feed([]byte(piece))
			if e != api.OK {
				t.Fatal(e)
			}
			for _, args := range l {
				last = append(last, slices.Clone(args))
				fill(args, "spoilt")
			}
			fill(l, []string{"spoilt", "list"})
		}
		if !sameCommands(last, commands{{"GET", "a"}, {"PING"}, strange()}) {
			t.Fatalf("%q", last)
		}
	}
	// Lists of one answer share nothing, whatever room there is behind them.
	for _, read := range []func(b []byte) [][]string{
		func(b []byte) [][]string { l, _, _ := Whole(b); return l },
		func(b []byte) [][]string { l, _ := New().Feed(b); return l },
	} {
		var want commands
		for count := 1; count <= 50; count++ {
			want = append(want, times(count, strconv.Itoa(count)))
		}
		b := []byte(row(want...))
		for i := range want {
			l := read(b)
			fill(l[i], "spoilt")
			l[i] = want[i]
			if !sameCommands(l, want) {
				t.Fatalf("%d: %q", i, l)
			}
			again := read(b)
			fill(l, nil)
			if !sameCommands(again, want) {
				t.Fatalf("%d: %q", i, again)
			}
		}
	}
	one, other := Command("GET", "a"), Command("GET", "a")
	fill(one, 'x')
	if string(other) != get || string(Command("GET", "a")) != get {
		t.Fatalf("%q", other)
	}
}

// TestTwo: two Readers know nothing of one another.
func TestTwo(t *testing.T) {
	a, b := New(), New()
	for i := range len(get) - 1 {
		checkFeed(t, "one", a, get[i:i+1], api.OK)
		if i < len(ping)-1 {
			checkFeed(t, "the other one", b, ping[i:i+1], api.OK)
		}
		checkState(t, "one", a, i+1, false)
		checkState(t, "the other one", b, min(i+1, len(ping)-1), false)
		checkWhole(t, ping+"*", len(ping), api.OK, []string{"PING"})
	}
	checkFeed(t, "the other one", b, "+", api.ErrProto)
	checkState(t, "the other one", b, 0, true)
	checkState(t, "one", a, len(get)-1, false)
	checkFeed(t, "one", a, "\n"+ping, api.OK, []string{"GET", "a"}, []string{"PING"})
	checkFeed(t, "a third one", New(), ping, api.OK, []string{"PING"})
	checkFeed(t, "the other one", b, ping, api.ErrProto)
}

// checkNone holds that a Reader is none.
func checkNone(t *testing.T, r *Reader) {
	t.Helper()
	for _, s := range []string{"", "*", get, get + ping, "+", "*0"} {
		checkFeed(t, "none", r, s, api.ErrNil)
		checkState(t, "none", r, 0, false)
	}
	if l, e := r.Feed(nil); l != nil || e != api.ErrNil {
		t.Fatal(l, e)
	}
	checkState(t, "none", r, 0, false)
}

func TestNil(t *testing.T) {
	var none *Reader
	checkNone(t, none)
	checkNone(t, new(Reader))
}

// TestByValue: a Reader that was copied by value is that same one.
func TestByValue(t *testing.T) {
	r := New()
	checkFeed(t, "origin", r, get[:12], api.OK)
	same := *r
	checkFeed(t, "copy", &same, get[12:16], api.OK)
	checkState(t, "origin", r, 16, false)
	checkFeed(t, "origin", r, get[16:]+"*", api.OK, []string{"GET", "a"})
	checkFeed(t, "copy", &same, "*", api.ErrProto)
	checkState(t, "origin", r, 0, true)
}

// TestOneCommand: a command that is as great as may be comes whole, one byte at a time.
func TestOneCommand(t *testing.T) {
	args := times(50, long(1000))
	b := row(args)
	r := New()
	for i := range len(b) - 1 {
		checkFeed(t, "one byte", r, b[i:i+1], api.OK)
		checkState(t, "one byte", r, i+1, false)
	}
	checkFeed(t, "the last byte", r, "\n", api.OK, args)
	checkState(t, "whole", r, 0, false)
}

// TestLeftRange: a range over commands that is left early reads no further.
func TestLeftRange(t *testing.T) {
	p := fresh()
	for at, args := range p.commands([]byte(get + ping + "*")) {
		if at != len(get) || !slices.Equal(args, []string{"GET", "a"}) {
			t.Fatal(at, args)
		}
		break
	}
	if p.taken != 0 || p.wrong() {
		t.Fatal(p.taken, p.wrong())
	}
}

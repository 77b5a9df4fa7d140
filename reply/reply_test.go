package reply

import (
	"bytes"
	"math"
	"runtime"
	"slices"
	"strconv"
	"strings"
	"testing"

	"tapster/api"
)

// example is a reply, and its bytes.
type example struct {
	reply api.Reply
	row   string
}

func examples() []example {
	return []example{
		{api.Reply{Kind: api.Int, N: -5}, ":-5\r\n"},
		{api.Reply{Kind: api.Null}, "$-1\r\n"},
		{api.Reply{Kind: api.Simple, Text: "OK"}, "+OK\r\n"},
		{api.Reply{Kind: api.Simple}, "+\r\n"},
		{api.Reply{Kind: api.Error, Text: "ERR x"}, "-ERR x\r\n"},
		{api.Reply{Kind: api.Error}, "-\r\n"},
		{api.Reply{Kind: api.Int}, ":0\r\n"},
		{api.Reply{Kind: api.Int, N: 7}, ":7\r\n"},
		{api.Reply{Kind: api.Int, N: -1}, ":-1\r\n"},
		{api.Reply{Kind: api.Int, N: math.MaxInt}, ":9223372036854775807\r\n"},
		{api.Reply{Kind: api.Int, N: math.MinInt}, ":-9223372036854775808\r\n"},
		{api.Reply{Kind: api.Bulk}, "$0\r\n\r\n"},
		{api.Reply{Kind: api.Bulk, Text: "a\r\nb"}, "$4\r\na\r\nb\r\n"},
		{api.Reply{Kind: api.Bulk, Text: "$-1\r\n"}, "$5\r\n$-1\r\n\r\n"},
		{api.Reply{Kind: api.Bulk, Text: "0123456789"}, "$10\r\n0123456789\r\n"},
		{api.Reply{Kind: api.Bulk, Text: "\u65e5"}, "$3\r\n\u65e5\r\n"},
		{api.Reply{Kind: api.List}, "*0\r\n"},
		{api.Reply{Kind: api.List, L: []string{}}, "*0\r\n"},
		{api.Reply{Kind: api.List, L: []string{""}}, "*1\r\n$0\r\n\r\n"},
		{api.Reply{Kind: api.List, L: []string{"", "xy"}}, "*2\r\n$0\r\n\r\n$2\r\nxy\r\n"},
		{api.Reply{Kind: api.List, L: []string{"a", "a"}}, "*2\r\n$1\r\na\r\n$1\r\na\r\n"},
		{api.Reply{Kind: api.List, L: []string{"$1", "\r\n", "*"}}, "*3\r\n$2\r\n$1\r\n$2\r\n\r\n\r\n$1\r\n*\r\n"},
		{api.Reply{Kind: api.List, L: slices.Repeat([]string{""}, 12)}, "*12\r\n" + strings.Repeat("$0\r\n\r\n", 12)},
	}
}

// strange are texts that look like what stands around them.
func strange() []string {
	return []string{"", "\r", "\n", "\r\n", "\n\r", "\r\r", "\n\n", "\r\n\r\n", "+", "-", ":", "$", "*", "+OK\r\n", "-ERR\r\n", ":0\r\n", "$-1\r\n", "$0\r\n\r\n", "*0\r\n", "*1\r\n$1\r\na\r\n", "0", "00", "-1", " ", "\x00", "\x00\x00", "a\x00b", "\x7f", "\x80", "\xff", "\xff\xfe\r\n", "\u00e9", "\u65e5\r\n", "a\r\nb", "\r\na", "a\r\n"}
}

// ints are least, greatest, and what is near to 0, to them, and to more digits.
func ints() []int {
	return []int{0, 1, -1, 9, 10, -9, -10, 99, 100, -99, -100, math.MaxInt, math.MaxInt - 1, math.MinInt, math.MinInt + 1, 1 << 40, 1<<40 + 1, -1 << 40}
}

// otherKinds are none.
func otherKinds() []int {
	return []int{0, 7, 8, -1, 9, 100, 256 + api.Simple, 1<<32 + api.Bulk, math.MaxInt, math.MinInt, math.MinInt + api.Int}
}

// long is a text of as many bytes, no two of which behind one another are the same.
func long(count int) string {
	return strings.Repeat("0123456789abcdef", count/16+1)[:count]
}

// alike tells whether two replies have the same in each field.
func alike(a, b api.Reply) bool {
	if a.Kind != b.Kind || a.Text != b.Text || a.N != b.N || len(a.L) != len(b.L) {
		return false
	}
	for i := range a.L {
		if a.L[i] != b.L[i] {
			return false
		}
	}
	return true
}

func checkPlain(t testing.TB, x, want api.Reply) {
	t.Helper()
	if got := Plain(x); !alike(got, want) {
		t.Fatalf("Plain(%+v): %+v, not %+v", x, got, want)
	}
	if right := alike(x, want); Right(x) != right {
		t.Fatalf("Right(%+v): not %t", x, right)
	}
	if !Right(want) {
		t.Fatalf("Right(%+v): not true", want)
	}
	if b, plain := Encode(x), Encode(want); !bytes.Equal(b, plain) {
		t.Fatalf("Encode(%+v): %q, not %q", x, b, plain)
	}
}

func checkEncode(t testing.TB, want string, l ...api.Reply) {
	t.Helper()
	if b := Encode(l...); string(b) != want {
		t.Fatalf("Encode(%+v): %q, not %q", l, b, want)
	}
}

func checkDecode(t testing.TB, row string, want api.Reply, taken int, errno api.Errno) {
	t.Helper()
	x, n, e := Decode([]byte(row))
	if !alike(x, want) || n != taken || e != errno {
		t.Fatalf("Decode(%q): %+v, %d, %d, not %+v, %d, %d", row, x, n, e, want, taken, errno)
	}
}

func checkAll(t testing.TB, row string, errno api.Errno, want ...api.Reply) {
	t.Helper()
	l, e := All([]byte(row))
	if !slices.EqualFunc(l, want, alike) || e != errno {
		t.Fatalf("All(%q): %+v, %d, not %+v, %d", row, l, e, want, errno)
	}
}

// checkErrors holds that each row has nothing whole ahead, and that error; behind a whole reply, too.
func checkErrors(t testing.TB, errno api.Errno, rows ...string) {
	t.Helper()
	for _, row := range rows {
		checkDecode(t, row, api.Reply{}, 0, errno)
		if row != "" {
			checkAll(t, row, errno)
			checkAll(t, ":7\r\n$-1\r\n"+row, errno)
		}
	}
}

// checkRead holds what row tells whole, and that each begin of it is too short.
func checkRead(t testing.TB, row string, want api.Reply) {
	t.Helper()
	for i := range len(row) {
		checkDecode(t, row[:i], api.Reply{}, 0, api.ErrShort)
	}
	checkDecode(t, row, want, len(row), api.OK)
	checkAll(t, row, api.OK, want)
	checkEncode(t, row, want)
}

func TestExamples(t *testing.T) {
	for _, x := range examples() {
		checkEncode(t, x.row, x.reply)
		checkRead(t, x.row, x.reply)
		checkPlain(t, x.reply, x.reply)
	}
}

// TestPlainFields: what a Kind has not is nothing, whatever stands there.
func TestPlainFields(t *testing.T) {
	texts := []string{"", "x", "0"}
	lists := [][]string{nil, {}, {""}, {"x"}, {"", ""}, {"a", "b", "c"}}
	for _, text := range texts {
		for _, n := range ints() {
			for _, l := range lists {
				for _, kind := range []int{api.Simple, api.Error, api.Bulk} {
					checkPlain(t, api.Reply{Kind: kind, Text: text, N: n, L: l}, api.Reply{Kind: kind, Text: text})
				}
				checkPlain(t, api.Reply{Kind: api.Int, Text: text, N: n, L: l}, api.Reply{Kind: api.Int, N: n})
				checkPlain(t, api.Reply{Kind: api.Null, Text: text, N: n, L: l}, api.Reply{Kind: api.Null})
				checkPlain(t, api.Reply{Kind: api.List, Text: text, N: n, L: l}, api.Reply{Kind: api.List, L: l})
				for _, kind := range otherKinds() {
					x := api.Reply{Kind: kind, Text: text, N: n, L: l}
					checkPlain(t, x, api.Reply{Kind: api.Null})
					checkEncode(t, "$-1\r\n", x)
				}
			}
		}
	}
}

// TestPlainLines: of Simple and Error each 0d, 0a is a blank, and each other byte is as it was; other texts stay.
func TestPlainLines(t *testing.T) {
	for text, want := range map[string]string{
		"": "", "OK": "OK", "\r": " ", "\n": " ", "\r\n": "  ", "\n\r": "  ", "\r\r\n\n": "    ", "a\rb": "a b", "a\nb": "a b", "a\r\nb": "a  b", "\ra": " a", "\na": " a", "\r\na": "  a", "a\r": "a ", "a\n": "a ", "a\r\n": "a  ",
		"\ra\nb\r\nc\r": " a b  c ", " \r ": "   ", "\x00\n\x00": "\x00 \x00", "\x0b\x0c\x0d\x0e\x09\x0a": "\x0b\x0c \x0e\x09 ", "\\r\\n": "\\r\\n",
		"\u00e9\n\u65e5\r\U0001f600": "\u00e9 \u65e5 \U0001f600", "\u0085\u2028\u2029\u010a\u010d\u0a0d": "\u0085\u2028\u2029\u010a\u010d\u0a0d",
		"\xff": "\xff", "\xff\n": "\xff ", "\r\x80\n\xfe\r": " \x80 \xfe ", "\xe6\n\x97\r\xa5": "\xe6 \x97 \xa5", "\xe6\x97\n": "\xe6\x97 ", "\ufffd\n\xff": "\ufffd \xff", "\xed\xa0\x80\r": "\xed\xa0\x80 ", "\xf4\x90\x80\x80\n": "\xf4\x90\x80\x80 ", "\xc0\x8a\xc0\x8d": "\xc0\x8a\xc0\x8d", "\x8a\x8d": "\x8a\x8d",
	} {
		for _, kind := range []int{api.Simple, api.Error} {
			checkPlain(t, api.Reply{Kind: kind, Text: text}, api.Reply{Kind: kind, Text: want})
			checkPlain(t, api.Reply{Kind: kind, Text: text, N: 1}, api.Reply{Kind: kind, Text: want})
		}
		checkEncode(t, "+"+want+"\r\n-"+want+"\r\n", api.Reply{Kind: api.Simple, Text: text}, api.Reply{Kind: api.Error, Text: text})
		checkPlain(t, api.Reply{Kind: api.Bulk, Text: text}, api.Reply{Kind: api.Bulk, Text: text})
		checkPlain(t, api.Reply{Kind: api.List, L: []string{text, text}}, api.Reply{Kind: api.List, L: []string{text, text}})
	}
}

// TestPlainBytes: of two bytes next to one another, whichever they are, 0d and 0a alone are other ones.
func TestPlainBytes(t *testing.T) {
	blank := func(c int) byte {
		if c == 0x0d || c == 0x0a {
			return 0x20
		}
		return byte(c)
	}
	for a := range 256 {
		for b := range 256 {
			x := api.Reply{Kind: api.Simple + (a+b)%2, Text: string([]byte{byte(a), byte(b)})}
			want := x
			want.Text = string([]byte{blank(a), blank(b)})
			if got := Plain(x); !alike(got, want) || Right(x) != (x.Text == want.Text) {
				t.Fatalf("Plain(%+q): %+q, Right %t", x.Text, got.Text, Right(x))
			}
		}
	}
}

func TestSame(t *testing.T) {
	// Each differs from all others.
	l := []api.Reply{
		{}, {Kind: 1}, {Kind: 2}, {Kind: 6}, {Kind: -1}, {Kind: 1 << 32}, {Text: "a"}, {Text: "b"}, {Text: "ab"}, {Text: "A"}, {Text: "\x00"}, {Text: " "}, {Text: "\xff"}, {Text: "\ufffd"},
		{N: 1}, {N: -1}, {N: math.MinInt}, {N: 1 << 32}, {L: []string{""}}, {L: []string{"", ""}}, {L: []string{"a"}}, {L: []string{"b"}}, {L: []string{"a", "b"}}, {L: []string{"b", "a"}}, {L: []string{"a", "b", "c"}}, {L: []string{"ab"}}, {L: []string{"a", ""}}, {L: []string{"", "a"}},
		{Kind: 6, Text: "a", N: 1, L: []string{"a", "b"}}, {Kind: 5, Text: "a", N: 1, L: []string{"a", "b"}}, {Kind: 6, Text: "b", N: 1, L: []string{"a", "b"}}, {Kind: 6, Text: "a", N: 2, L: []string{"a", "b"}}, {Kind: 6, Text: "a", N: 1, L: []string{"a", "c"}}, {Kind: 6, Text: "a", N: 1, L: []string{"c", "b"}}, {Kind: 6, Text: "a", N: 1, L: []string{"a"}}, {Kind: 6, Text: "a", N: 1},
	}
	for i, a := range l {
		for j, b := range l {
			b.L = slices.Clone(b.L)
			if Same(a, b) != (i == j) {
				t.Errorf("Same(%+v, %+v): not %t", a, b, i == j)
			}
		}
	}
	for _, x := range []api.Reply{{}, {Kind: api.List}, {Kind: api.Bulk, Text: "a", N: 1}} {
		empty, roomy := x, x
		empty.L, roomy.L = []string{}, make([]string, 0, 5)
		if !Same(x, empty) || !Same(empty, x) || !Same(empty, roomy) || !Same(roomy, x) {
			t.Errorf("%+v: not the same with a list of no texts", x)
		}
		if Right(x) != Right(empty) || Right(x) != Right(roomy) {
			t.Errorf("%+v: Right by its empty list", x)
		}
	}
}

func TestEncode(t *testing.T) {
	checkEncode(t, "")
	checkEncode(t, "", []api.Reply{}...)
	var l []api.Reply
	row := ""
	for _, x := range examples() {
		l, row = append(l, x.reply), row+x.row
		checkEncode(t, row, l...)
		checkAll(t, row, api.OK, l...)
	}
	checkEncode(t, row+row, slices.Concat(l, l)...)
	slices.Reverse(l)
	checkAll(t, string(Encode(l...)), api.OK, l...)
	// Such as are not Right, among such as are.
	checkEncode(t, "+a  b\r\n:3\r\n$-1\r\n$-1\r\n*1\r\n$1\r\nx\r\n-E \r\n$2\r\n\r\n\r\n",
		api.Reply{Kind: api.Simple, Text: "a\r\nb", N: 4, L: []string{"x"}}, api.Reply{Kind: api.Int, Text: "x", N: 3}, api.Reply{Kind: api.Null, Text: "x", N: 3}, api.Reply{Kind: 7, Text: "x", N: 3},
		api.Reply{Kind: api.List, Text: "y", N: 1, L: []string{"x"}}, api.Reply{Kind: api.Error, Text: "E\n", N: 2}, api.Reply{Kind: api.Bulk, Text: "\r\n", N: 2, L: []string{""}})
}

func TestInts(t *testing.T) {
	for _, n := range ints() {
		checkRead(t, ":"+strconv.Itoa(n)+"\r\n", api.Reply{Kind: api.Int, N: n})
	}
	checkErrors(t, api.ErrShort, ":", ":-", ":0", ":0\r", ":1", ":-1", ":-1\r", ":10", ":922337203685477580", ":9223372036854775807", ":9223372036854775807\r", ":-9223372036854775808", ":-9223372036854775808\r", ":999999999999999999")
	checkErrors(t, api.ErrForm,
		":00", ":01", ":01\r\n", ":00\r\n", ":007\r\n", ":-0", ":-0\r\n", ":-01", ":-00\r\n", ":+1", ":+1\r\n", ":+", ":--", ":--1\r\n", ":-\r", ":-\r\n", ":\r", ":\r\n", ":-1-", ":1-1\r\n",
		":9223372036854775808", ":9223372036854775808\r\n", ":-9223372036854775809", ":-9223372036854775809\r\n", ":92233720368547758070", ":-92233720368547758080", ":10000000000000000000", ":18446744073709551615\r\n", ":18446744073709551616\r\n", ":18446744073709551617", ":"+strings.Repeat("1", 100), ":"+strings.Repeat("0", 100)+"\r\n", ":-"+strings.Repeat("9", 100000),
		": 1", ":1 ", ":1 \r\n", ":1.0\r\n", ":1e3\r\n", ":0x1\r\n", ":1_0\r\n", ":a", ":\x00", ":\xff", ":\u0661\r\n", ":1\x00\r\n", ":1,\r\n")
}

// TestTexts: Bulks and Lists of texts that look like what stands around them, or like replies.
func TestTexts(t *testing.T) {
	for _, x := range strange() {
		checkRead(t, "$"+strconv.Itoa(len(x))+"\r\n"+x+"\r\n", api.Reply{Kind: api.Bulk, Text: x})
		one := "$" + strconv.Itoa(len(x)) + "\r\n" + x + "\r\n"
		checkRead(t, "*1\r\n"+one, api.Reply{Kind: api.List, L: []string{x}})
		checkRead(t, "*3\r\n"+one+"$1\r\n*\r\n"+one, api.Reply{Kind: api.List, L: []string{x, "*", x}})
	}
	checkRead(t, written(api.Reply{Kind: api.List, L: strange()}), api.Reply{Kind: api.List, L: strange()})
	for _, x := range examples() {
		checkRead(t, plainText(x.row), api.Reply{Kind: api.Bulk, Text: x.row})
		checkRead(t, "*2\r\n"+plainText(x.row)+plainText(x.row), api.Reply{Kind: api.List, L: []string{x.row, x.row}})
	}
	for c := range 256 {
		x := string([]byte{byte(c)})
		checkRead(t, "$1\r\n"+x+"\r\n", api.Reply{Kind: api.Bulk, Text: x})
		if c == '\r' || c == '\n' {
			continue
		}
		checkRead(t, "+"+x+"\r\n", api.Reply{Kind: api.Simple, Text: x})
		checkRead(t, "-a"+x+"\r\n", api.Reply{Kind: api.Error, Text: "a" + x})
	}
	for _, x := range []string{"+OK", "$-1", "*0", ":7", "-", "\xff\x80", "\u65e5\xe6", " ", "\x00\x00", "\\r\\n"} {
		checkRead(t, "+"+x+"\r\n", api.Reply{Kind: api.Simple, Text: x})
		checkRead(t, "-"+x+"\r\n", api.Reply{Kind: api.Error, Text: x})
	}
}

// TestNull: `$-1` is Null, and a Bulk of no bytes is another thing; nothing else is less than 0.
func TestNull(t *testing.T) {
	null, none := api.Reply{Kind: api.Null}, api.Reply{Kind: api.Bulk}
	checkRead(t, "$-1\r\n", null)
	checkRead(t, "$0\r\n\r\n", none)
	checkAll(t, "$-1\r\n$0\r\n\r\n$-1\r\n$-1\r\n", api.OK, null, none, null, null)
	checkAll(t, "$-1\r\n\r\n", api.ErrForm)
	checkDecode(t, "$-1\r\n\r\n", null, 5, api.OK)
	checkErrors(t, api.ErrShort, "$", "$-", "$-1", "$-1\r", "$0", "$0\r", "$0\r\n", "$0\r\n\r")
	checkErrors(t, api.ErrForm, "$-10", "$-11", "$-1-", "$-10\r\n", "$-2", "$-2\r\n", "$-0", "$-0\r\n\r\n", "$-01\r\n", "$--1\r\n", "$-\r", "$-\r\n", "$-1\n", "$-1\r\r", "$-1 \r\n", "$-1a", "$-9223372036854775808\r\n", "$-18446744073709551617\r\n", "$00\r\n\r\n", "$+1\r\na\r\n", "$-a", "$\r\n", "$\n", "*-1\r\n", "*-1", "*-", "*-0\r\n", "*-2\r\n")
}

// TestDecodeOneByte: five bytes are the begin of a reply, and all others of none.
func TestDecodeOneByte(t *testing.T) {
	checkDecode(t, "", api.Reply{}, 0, api.ErrShort)
	if x, n, e := Decode(nil); !alike(x, api.Reply{}) || n != 0 || e != api.ErrShort {
		t.Fatal(x, n, e)
	}
	for c := range 256 {
		row := string([]byte{byte(c)})
		errno := api.ErrForm
		if strings.Contains("+-:$*", row) && c < 128 {
			errno = api.ErrShort
		}
		checkErrors(t, errno, row)
		if errno == api.ErrForm {
			checkErrors(t, errno, row+"OK\r\n", row+"\r\n", row+"+OK\r\n", row+"1\r\na\r\n")
		}
	}
}

// TestSizes: how many bytes and how many texts there may be said to be.
func TestSizes(t *testing.T) {
	for _, sign := range []string{"$", "*", "*1\r\n$", "*2\r\n$1\r\na\r\n$"} {
		for _, n := range []string{"1", "9", "10", "12", "1000", "2147483647", "2147483648", "4294967296", "1099511627775", "1099511627776"} {
			for i := range len(n) + 1 {
				checkErrors(t, api.ErrShort, sign+n[:i])
			}
			checkErrors(t, api.ErrShort, sign+n+"\r", sign+n+"\r\n")
			checkErrors(t, api.ErrForm, sign+n+"\n", sign+n+"\r\r", sign+n+" ", sign+n+"-", sign+n+"a", sign+"0"+n, sign+"0"+n+"\r\n", sign+"00"+n+"\r\n", sign+"-"+n+"0\r\n", sign+"+"+n+"\r\n")
			checkErrors(t, api.ErrForm, sign+"99999999"+n+"00000\r\n")
		}
		checkErrors(t, api.ErrForm, sign+"1099511627777", sign+"1099511627777\r\n", sign+"1099511627780", sign+"1099511627786", sign+"1199511627776", sign+"2099511627776", sign+"10995116277760", sign+"9223372036854775807", sign+"9223372036854775808", sign+"18446744073709551616\r\n", sign+"18446744073709551617\r\n\r\n", sign+strings.Repeat("1", 1000), sign+strings.Repeat("9", 100000)+"\r\n", sign+strings.Repeat("0", 30)+"\r\n")
		checkErrors(t, api.ErrForm, sign+"\r", sign+"\n", sign+"\r\n", sign+"a", sign+" 1", sign+"\x00", sign+"\xff", sign+"$", sign+"*", sign+"-\r\n", sign+"1.0\r\n", sign+"0x1\r\n")
	}
	checkErrors(t, api.ErrShort, "$1099511627776\r\n"+long(1000), "$1099511627776\r\n\r\n\r\n", "*1099511627776\r\n$1\r\na\r\n$1099511627776\r\n*", "*1099511627776\r\n"+strings.Repeat("$1\r\na\r\n", 1000))
	checkErrors(t, api.ErrForm, "*1099511627776\r\n+", "*1099511627776\r\n$1\r\na\r\n:", "*1099511627776\r\n$-1\r\n", "*2\r\n$1099511627777")
}

// TestEnds: 0d without 0a, 0a without 0d, and both the wrong way round.
func TestEnds(t *testing.T) {
	for _, line := range []string{"+", "-", "+OK", "-ERR x", ":1", ":-5", "$-1", "$1", "$0\r\n", "$1\r\na", "$2\r\nab", "*0", "*1", "*1\r\n$0", "*1\r\n$1\r\na", "*1\r\n$0\r\n"} {
		checkErrors(t, api.ErrShort, line, line+"\r")
		for _, end := range []string{"\n", "\n\r", "\n\r\n", "\r\r", "\r\r\n", "\r \n", "\ra", "\rOK\r\n", "\r\x00\n", "\r:1\r\n", "\r$", "\n+OK\r\n", "\na\r\n"} {
			if !strings.HasSuffix(line, "\r\n") || end[0] != '\r' {
				checkErrors(t, api.ErrForm, line+end)
			}
		}
	}
	for _, row := range []string{"$0\r\n", "*1\r\n$0\r\n"} {
		checkErrors(t, api.ErrForm, row+"\r\r", row+"\r \n", row+"\ra", row+"a\r\n", row+" \r\n")
	}
	// A line's end is the first one there is.
	ok := api.Reply{Kind: api.Simple, Text: "OK"}
	checkDecode(t, "+OK\r\nx\r\n", ok, 5, api.OK)
	checkDecode(t, "+OK\r\n\r\n", ok, 5, api.OK)
	checkDecode(t, "+OK\r\n\n", ok, 5, api.OK)
	checkErrors(t, api.ErrForm, "+a\rb\r\n", "+a\nb\r\n", "-\n\r\n", "-\r\r\n", "+"+long(1000)+"\n", "+"+long(1000)+"\r"+long(1000)+"\r\n")
}

// TestFewerAndMore: a Bulk's bytes, one too few and one too many; a List's texts, too.
func TestFewerAndMore(t *testing.T) {
	checkErrors(t, api.ErrShort, "$2\r\na", "$2\r\na\r", "$2\r\nab", "$2\r\nab\r", "$3\r\na\r\n", "$4\r\na\r\n", "$5\r\na\r\n+", "*2\r\n$1\r\na\r\n", "*2\r\n$1\r\na\r\n$", "*1\r\n$6\r\n$0\r\n\r\n")
	checkErrors(t, api.ErrForm, "$2\r\na\r\n+", "$2\r\na\r\n", "*2\r\n$2\r\na\r\n", "$2\r\nabc", "$2\r\nabc\r\n", "$0\r\na", "$0\r\na\r\n", "$1\r\n\r\n\n", "$1\r\n\r\n$", "*1\r\n$2\r\na\r\n$", "*1\r\n$0\r\na\r\n", "*1\r\n$1\r\nab\r\n", "*2\r\n$1\r\nab\r\n$1\r\na\r\n")
	checkDecode(t, "$1\r\n\r\r\n", api.Reply{Kind: api.Bulk, Text: "\r"}, 7, api.OK)
	checkDecode(t, "$2\r\n\r\n\r\n", api.Reply{Kind: api.Bulk, Text: "\r\n"}, 8, api.OK)
	checkDecode(t, "*1\r\n$1\r\na\r\n$1\r\na\r\n", api.Reply{Kind: api.List, L: []string{"a"}}, 11, api.OK)
	checkDecode(t, "*0\r\n$1\r\na\r\n", api.Reply{Kind: api.List}, 4, api.OK)
	for size := range 300 {
		text := long(size)
		ahead := "$" + strconv.Itoa(size) + "\r\n"
		checkErrors(t, api.ErrShort, ahead+text, ahead+text+"\r", ahead+text[:size/2])
		checkErrors(t, api.ErrForm, ahead+text+"x\r\n", ahead+text+"\n", ahead+text+"\r\r\n", ahead+text+"x"+long(200))
		if size > 2 {
			checkErrors(t, api.ErrShort, ahead+text[1:], ahead+text[1:]+"\r", ahead+text[2:]+"\r\n")
			checkErrors(t, api.ErrForm, ahead+text[1:]+"\r\n", ahead+text[3:]+"\r\n+OK\r\n")
		}
	}
}

// TestListTexts: nothing else than a Bulk stands in a List.
func TestListTexts(t *testing.T) {
	for _, ahead := range []string{"*1\r\n", "*2\r\n$1\r\na\r\n", "*2\r\n", "*1099511627776\r\n$0\r\n\r\n"} {
		checkErrors(t, api.ErrForm, ahead+"$-1\r\n", ahead+"$-1", ahead+"$-", ahead+":", ahead+":1\r\n", ahead+"*", ahead+"*0\r\n", ahead+"*1\r\n$1\r\na\r\n", ahead+"+", ahead+"+OK\r\n", ahead+"-", ahead+"-ERR\r\n", ahead+"\r\n", ahead+"a\r\n", ahead+"1\r\n", ahead+"\x00")
		checkErrors(t, api.ErrShort, ahead, ahead+"$", ahead+"$0", ahead+"$1\r\n")
	}
	for count := range 200 {
		l := slices.Repeat([]string{"", "ab"}, count)[:count]
		row := written(api.Reply{Kind: api.List, L: l})
		checkDecode(t, row, api.Reply{Kind: api.List, L: l}, len(row), api.OK)
		if count > 0 {
			checkErrors(t, api.ErrShort, row[:len(row)-1], row[:len(row)-2], row[:strings.LastIndex(row, "$")])
			checkErrors(t, api.ErrForm, row[:strings.LastIndex(row, "$")]+"$-1\r\n", row[:len(row)-2]+"x\r\n")
		}
	}
}

// TestBehind: what stands behind a reply, whatever it is, changes nothing of it.
func TestBehind(t *testing.T) {
	for _, x := range examples() {
		for _, behind := range append(strange(), "x", "*", "$1", ":-", long(10), long(100), long(1000), strings.Repeat("+OK\r\n", 1000)) {
			checkDecode(t, x.row+behind, x.reply, len(x.row), api.OK)
		}
		for c := range 256 {
			checkDecode(t, x.row+string([]byte{byte(c)}), x.reply, len(x.row), api.OK)
		}
	}
}

// TestLong: replies of each length, with little and much behind them, as only some bytes are looked at first.
func TestLong(t *testing.T) {
	for size := range 600 {
		text := long(size)
		for _, x := range []api.Reply{{Kind: api.Simple, Text: text}, {Kind: api.Error, Text: text}, {Kind: api.Bulk, Text: text}, {Kind: api.List, L: []string{text[:size/2], text[size/2:]}}} {
			row := written(x)
			for _, behind := range []string{"", "+", ":1\r\n", long(70), long(2000)} {
				checkDecode(t, row+behind, x, len(row), api.OK)
			}
			checkErrors(t, api.ErrShort, row[:len(row)-1], row[:len(row)-2], row[:len(row)/2+1])
		}
		checkErrors(t, api.ErrForm, "+"+text+"\n", "+"+text+"\n"+long(500)+"\r\n", "-"+text+"\r"+long(500)+"\r\n", "$"+strconv.Itoa(size)+"\r\n"+text+"\n"+long(500))
	}
	for _, size := range []int{1000, 4096, 1 << 16, 1 << 20} {
		for _, x := range []api.Reply{{Kind: api.Simple, Text: long(size)}, {Kind: api.Bulk, Text: long(size)}, {Kind: api.List, L: strings.Split(long(size), "f")}} {
			row := written(x)
			checkDecode(t, row, x, len(row), api.OK)
			checkDecode(t, row+row+"x", x, len(row), api.OK)
			checkErrors(t, api.ErrShort, row[:len(row)-1])
		}
	}
}

// TestMany: each of very many replies is told one behind the other, without all that is behind it being copied for each.
func TestMany(t *testing.T) {
	const count = 50000
	b := bytes.Repeat([]byte(":7\r\n"), count)
	if l, e := All(b); len(l) != count || e != api.OK || !alike(l[count-1], api.Reply{Kind: api.Int, N: 7}) {
		t.Fatal(len(l), e)
	}
	var ahead, behind runtime.MemStats
	runtime.ReadMemStats(&ahead)
	for i := 0; len(b) > 0; i++ {
		x, n, e := Decode(b)
		if x.N != 7 || n != 4 || e != api.OK {
			t.Fatal(i, x, n, e)
		}
		b = b[n:]
	}
	runtime.ReadMemStats(&behind)
	if each := (behind.TotalAlloc - ahead.TotalAlloc) / count; each > 4000 {
		t.Fatalf("%d bytes for each reply", each)
	}
}

func TestAll(t *testing.T) {
	checkAll(t, "", api.OK)
	if l, e := All(nil); len(l) != 0 || e != api.OK {
		t.Fatal(l, e)
	}
	one, two := api.Reply{Kind: api.Int, N: 1}, api.Reply{Kind: api.List, L: []string{"a"}}
	const oneRow, twoRow = ":1\r\n", "*1\r\n$1\r\na\r\n"
	checkAll(t, oneRow, api.OK, one)
	checkAll(t, oneRow+twoRow, api.OK, one, two)
	checkAll(t, twoRow+oneRow+twoRow+twoRow, api.OK, two, one, two, two)
	// Several and a part: nothing, and ErrShort.
	checkAll(t, oneRow+"+", api.ErrShort)
	for i := 1; i < len(twoRow); i++ {
		checkAll(t, oneRow+oneRow+twoRow[:i], api.ErrShort)
	}
	// Several and what has the wrong form: nothing, and ErrForm, whatever is behind that.
	checkAll(t, oneRow+"x", api.ErrForm)
	checkAll(t, oneRow+twoRow+"\r\n", api.ErrForm)
	checkAll(t, oneRow+"$-2\r\n"+twoRow, api.ErrForm)
	checkAll(t, oneRow+":01\r\n"+twoRow+"+", api.ErrForm)
	checkAll(t, twoRow+":1\n"+oneRow, api.ErrForm)
	checkAll(t, "x"+oneRow, api.ErrForm)
	// The first error: a Bulk that waits for all that is behind it.
	checkAll(t, oneRow+"$100\r\n:01\r\nx", api.ErrShort)
	for _, a := range examples() {
		for _, b := range examples() {
			checkAll(t, a.row+b.row, api.OK, a.reply, b.reply)
			checkAll(t, a.row+b.row[:len(b.row)-1], api.ErrShort)
			checkAll(t, a.row+b.row+"\x00", api.ErrForm)
		}
	}
}

// room tells l with all that there is behind it.
func room[T any](l []T) []T {
	return l[:cap(l)]
}

// fill writes x to all of l, and behind it.
func fill[T any](l []T, x T) {
	for i := range room(l) {
		room(l)[i] = x
	}
}

// TestHandedIn: bytes, texts and lists are neither changed nor kept, nor what stands behind them.
func TestHandedIn(t *testing.T) {
	l := append(make([]string, 0, 10), "a\r\nb", "", "c")
	for _, kind := range []int{api.Simple, api.Error, api.Int, api.Bulk, api.Null, api.List, 7} {
		x := api.Reply{Kind: kind, Text: "a\r\nb", N: 3, L: l}
		want, row := written(x), written(x, x)
		replies := append(make([]api.Reply, 0, 5), x, x)
		ahead, listAhead := slices.Clone(room(replies)), slices.Clone(room(l))
		b, p := Encode(replies...), Plain(x)
		Right(x)
		Same(x, x)
		if !slices.EqualFunc(room(replies), ahead, alike) || !slices.Equal(room(l), listAhead) {
			t.Fatalf("%+v, %q", room(replies), room(l))
		}
		fill(replies, api.Reply{Kind: api.Simple, Text: "spoilt"})
		fill(l, "spoilt")
		if string(b) != row || string(Encode(p)) != want {
			t.Fatalf("%q, %q, not %q", b, Encode(p), want)
		}
		copy(room(l), listAhead)
	}
	for _, s := range []string{"+OK\r\n", "$1\r\na\r\n", "*2\r\n$1\r\na\r\n$70\r\n" + long(70) + "\r\n", "+O", "*2\r\n$1\r\na\r\n", "x", "+a\nb"} {
		b := append(make([]byte, 0, 200), s...)
		ahead := bytes.Clone(room(b))
		want, taken, errno := plain(s)
		x, n, e := Decode(b)
		all, allErrno := All(b)
		if !bytes.Equal(room(b), ahead) {
			t.Fatalf("%q, not %q", room(b), ahead)
		}
		fill(b, 'x')
		if !alike(x, want) || n != taken || e != errno || allErrno != errno || errno == api.OK && !alike(all[0], want) {
			t.Fatalf("%q: %+v, %d, %d, %+v, %d", s, x, n, e, all, allErrno)
		}
	}
}

// TestSpoilt: whatever becomes of what came out, of it and of the room behind it, changes nothing else.
func TestSpoilt(t *testing.T) {
	x := api.Reply{Kind: api.List, L: []string{"a", "b", "c"}}
	row := written(x)
	one, other := Plain(x), Plain(x)
	fill(one.L, "spoilt")
	if !alike(other, api.Reply{Kind: api.List, L: []string{"a", "b", "c"}}) || !alike(x, other) || !Right(x) {
		t.Fatal(other, x)
	}
	for _, empty := range [][]string{nil, {}, make([]string, 0, 5)} {
		fill(Plain(api.Reply{Kind: api.List, L: empty}).L, "spoilt")
		if s := strings.Join(room(empty), ""); s != "" {
			t.Fatal(s)
		}
	}
	b, c := Encode(x), Encode(x)
	fill(b, 'x')
	if string(c) != row || string(Encode(x)) != row {
		t.Fatalf("%q", c)
	}
	in := []byte(row)
	one, _, _ = Decode(in)
	other, _, _ = Decode(in)
	fill(one.L, "spoilt")
	if !alike(other, x) || string(in) != row {
		t.Fatal(other, string(in))
	}
	checkDecode(t, row, x, len(row), api.OK)
	// Lists of one answer share nothing, whatever room there is behind them.
	var want []api.Reply
	for count := range 40 {
		want = append(want, api.Reply{Kind: api.List, L: slices.Repeat([]string{strconv.Itoa(count)}, count)})
	}
	in = Encode(want...)
	for i := range want {
		l, e := All(in)
		if e != api.OK {
			t.Fatal(e)
		}
		fill(l[i].L, "spoilt")
		l[i] = want[i]
		if !slices.EqualFunc(l, want, alike) {
			t.Fatalf("%d: %+v", i, l)
		}
		again, _ := All(in)
		fill(l, api.Reply{})
		if !slices.EqualFunc(again, want, alike) {
			t.Fatalf("%d: %+v", i, again)
		}
	}
}

package reply

import (
	"fmt"
	"math/big"
	"regexp"
	"slices"
	"strconv"
	"strings"
	"testing"

	"tapster/api"
)

// The rows that a line may be, and the begins of such; a number's and a text's.
var (
	wholeNumber = regexp.MustCompile(`^(0|-?[1-9][0-9]*)\r\n`)
	begunNumber = regexp.MustCompile(`^(0|-?[1-9][0-9]*)\r?$`)
	wholeText   = regexp.MustCompile(`^([^\r\n]*)\r\n`)
	begunText   = regexp.MustCompile(`^[^\r\n]*\r?$`)
)

// between tells whether a text's number is one of least to most.
func between(text, least, most string) bool {
	read := func(s string) *big.Int {
		n, _ := new(big.Int).SetString(s, 10)
		return n
	}
	n := read(text)
	return n.Cmp(read(least)) >= 0 && n.Cmp(read(most)) <= 0
}

// cutNumber takes a number of least to most, and its line end, off a row.
func cutNumber(row, least, most string) (text, behind string, errno api.Errno) {
	if m := wholeNumber.FindStringSubmatch(row); m != nil && between(m[1], least, most) {
		return m[1], row[len(m[0]):], api.OK
	}
	if m := begunNumber.FindStringSubmatch(row); m != nil && between(m[1], least, most) {
		return "", "", api.ErrShort
	}
	if row == "" || row == "-" && least[0] == '-' {
		return "", "", api.ErrShort
	}
	return "", "", api.ErrForm
}

// cutLine takes a text, and its line end, off a row.
func cutLine(row string) (text, behind string, errno api.Errno) {
	if m := wholeText.FindStringSubmatch(row); m != nil {
		return m[1], row[len(m[0]):], api.OK
	}
	if begunText.MatchString(row) {
		return "", "", api.ErrShort
	}
	return "", "", api.ErrForm
}

// cutText takes as many bytes as it is said ahead of them off a row.
func cutText(row string) (text, behind string, errno api.Errno) {
	if row == "" {
		return "", "", api.ErrShort
	}
	if row[0] != '$' {
		return "", "", api.ErrForm
	}
	size, behind, errno := cutNumber(row[1:], "0", "1099511627776")
	if errno != api.OK {
		return "", "", errno
	}
	n, _ := strconv.Atoi(size)
	switch {
	case n+2 <= len(behind) && behind[n:n+2] == "\r\n":
		return behind[:n], behind[n+2:], api.OK
	case n >= len(behind), n+1 == len(behind) && behind[n] == '\r':
		return "", "", api.ErrShort
	default:
		return "", "", api.ErrForm
	}
}

// cutList takes a List off a row behind its sign.
func cutList(row string) (l []string, behind string, errno api.Errno) {
	count, behind, errno := cutNumber(row, "0", "1099511627776")
	if errno != api.OK {
		return nil, "", errno
	}
	n, _ := strconv.Atoi(count)
	for range n {
		var text string
		if text, behind, errno = cutText(behind); errno != api.OK {
			return nil, "", errno
		}
		l = append(l, text)
	}
	return l, behind, api.OK
}

// plain reads all bytes at once: the reply that a row begins with, and how many bytes it takes.
func plain(row string) (x api.Reply, taken int, errno api.Errno) {
	var behind, text string
	switch {
	case row == "":
		return api.Reply{}, 0, api.ErrShort
	case row[0] == '+':
		x.Kind = api.Simple
		x.Text, behind, errno = cutLine(row[1:])
	case row[0] == '-':
		x.Kind = api.Error
		x.Text, behind, errno = cutLine(row[1:])
	case row[0] == ':':
		x.Kind = api.Int
		text, behind, errno = cutNumber(row[1:], "-9223372036854775808", "9223372036854775807")
		x.N, _ = strconv.Atoi(text)
	case strings.HasPrefix("$-1\r\n", row):
		x.Kind = api.Null
		if len(row) < 5 {
			errno = api.ErrShort
		}
	case strings.HasPrefix(row, "$-1\r\n"):
		x.Kind, behind = api.Null, row[5:]
	case row[0] == '$':
		x.Kind = api.Bulk
		x.Text, behind, errno = cutText(row)
	case row[0] == '*':
		x.Kind = api.List
		x.L, behind, errno = cutList(row[1:])
	default:
		errno = api.ErrForm
	}
	if errno != api.OK {
		return api.Reply{}, 0, errno
	}
	return x, len(row) - len(behind), api.OK
}

// plainAll reads the replies that a row is.
func plainAll(row string) (all []api.Reply, errno api.Errno) {
	for row != "" {
		x, n, errno := plain(row)
		if errno != api.OK {
			return nil, errno
		}
		all, row = append(all, x), row[n:]
	}
	return all, api.OK
}

// plainText writes as many bytes as it says ahead of them.
func plainText(text string) string {
	return fmt.Sprintf("$%d\r\n%s\r\n", len(text), text)
}

// written is the bytes of replies, whether they are Right or not.
func written(l ...api.Reply) string {
	var b strings.Builder
	blanks := strings.NewReplacer("\r", " ", "\n", " ")
	for _, x := range l {
		switch x.Kind {
		case api.Simple:
			b.WriteString("+" + blanks.Replace(x.Text) + "\r\n")
		case api.Error:
			b.WriteString("-" + blanks.Replace(x.Text) + "\r\n")
		case api.Int:
			fmt.Fprintf(&b, ":%d\r\n", x.N)
		case api.Bulk:
			b.WriteString(plainText(x.Text))
		case api.List:
			fmt.Fprintf(&b, "*%d\r\n", len(x.L))
			for _, text := range x.L {
				b.WriteString(plainText(text))
			}
		default:
			b.WriteString("$-1\r\n")
		}
	}
	return b.String()
}

// checkRow holds what is told of a row against what is plainly read of it; what was decoded is Right, and has the bytes that it was decoded of.
func checkRow(t testing.TB, row string) api.Errno {
	t.Helper()
	want, taken, errno := plain(row)
	checkDecode(t, row, want, taken, errno)
	if errno == api.OK {
		x, n, _ := Decode([]byte(row))
		if b := Encode(x); !Right(x) || string(b) != row[:n] {
			t.Fatalf("Decode(%q): %+v, Right %t, %q", row, x, Right(x), b)
		}
	}
	all, allErrno := plainAll(row)
	checkAll(t, row, allErrno, all...)
	return errno
}

// scattered draws numbers from 0 to below count, the same in every run.
func scattered() func(count int) int {
	x := uint64(88172645463325252)
	return func(count int) int {
		x ^= x << 13
		x ^= x >> 7
		x ^= x << 17
		return int((x >> 11) % uint64(count))
	}
}

// rows are of replies, whole ones and such as are not, and such as have the wrong form somewhere.
func rows() []string {
	return []string{
		"+OK\r\n", "-ERR x\r\n", ":-12\r\n", ":0\r\n", "$4\r\na\r\nb\r\n", "$0\r\n\r\n", "$-1\r\n", "*0\r\n", "*2\r\n$0\r\n\r\n$2\r\nxy\r\n", "+\r\n", "-\r\n", "+\xff\xe6\u65e5\r\n",
		":9223372036854775807\r\n", ":-9223372036854775808\r\n", "$10\r\n0123456789\r\n", "*1\r\n$3\r\n*1\r\r\n", "*3\r\n$1\r\n$\r\n$1\r\n\n\r\n$2\r\n\r\n\r\n",
		"+OK\r\n-E\r\n:1\r\n$1\r\na\r\n$-1\r\n*1\r\n$1\r\na\r\n", "$-1\r\n$-1\r\n", ":1\r\n:", "*2\r\n$1\r\na\r\n", "$5\r\nabc", "+O", "-", "$1099511627776\r\n", "*1099511627776\r\n$1\r\na\r\n",
		"+a\nb\r\n", ":01\r\n", "$1\r\nab\r\n", "*1\r\n$-1\r\n", "*-1\r\n", "$-2\r\n", "x\r\n", ":1\r\nx",
	}
}

// TestPlainReader holds what all others are held against: it is as the document says, of rows whose replies are known.
func TestPlainReader(t *testing.T) {
	for _, x := range examples() {
		if got, n, e := plain(x.row + "+"); !alike(got, x.reply) || n != len(x.row) || e != api.OK {
			t.Errorf("%q: %+v, %d, %d", x.row, got, n, e)
		}
		if s := written(x.reply); s != x.row {
			t.Errorf("%+v: %q", x.reply, s)
		}
	}
	for row, want := range map[string]api.Errno{"": api.ErrShort, "+": api.ErrShort, "+a\r": api.ErrShort, "+a\rb": api.ErrForm, "x": api.ErrForm, ":-": api.ErrShort, ":-0": api.ErrForm, ":9223372036854775808": api.ErrForm, "$-1\r": api.ErrShort, "$-2": api.ErrForm, "$1099511627776": api.ErrShort, "$1099511627777": api.ErrForm, "$2\r\nab\r": api.ErrShort, "$2\r\nabc": api.ErrForm, "*-": api.ErrForm, "*1\r\n$-": api.ErrForm, "*2\r\n$0\r\n\r\n": api.ErrShort} {
		if x, n, e := plain(row); !alike(x, api.Reply{}) || n != 0 || e != want {
			t.Errorf("%q: %+v, %d, %d", row, x, n, e)
		}
	}
}

// TestEachByte replaces each byte of some rows by each other one, doubles it, and leaves it out.
func TestEachByte(t *testing.T) {
	gone := map[api.Errno]int{}
	for _, row := range rows() {
		gone[checkRow(t, row)]++
		for i := range len(row) {
			ahead, behind := row[:i], row[i+1:]
			for c := range 256 {
				gone[checkRow(t, ahead+string([]byte{byte(c)})+behind)]++
			}
			gone[checkRow(t, ahead+row[i:i+1]+row[i:])]++
			gone[checkRow(t, ahead+behind)]++
		}
	}
	if gone[api.OK] < 1000 || gone[api.ErrShort] < 1000 || gone[api.ErrForm] < 1000 {
		t.Fatal("too little happened to tell:", gone)
	}
}

// alphabet is bytes that mean something, and some that mean nothing.
const alphabet = "+-:$*\r\n019a"

// begins are the first count bytes, or fewer, of all that Encode tells of replies of bytes of the alphabet, each with whether that is all of it.
func begins(count int) map[string]bool {
	all := map[string]bool{}
	add := func(row string) {
		for i := range min(len(row), count) + 1 {
			all[row[:i]] = all[row[:i]] || i == len(row)
		}
	}
	texts := []string{""}
	for from := 0; len(texts[from]) < count; from++ {
		for _, c := range strings.Split(alphabet, "") {
			texts = append(texts, texts[from]+c)
		}
	}
	for _, text := range texts {
		if !strings.ContainsAny(text, "\r\n") {
			add("+" + text + "\r\n")
			add("-" + text + "\r\n")
		}
		// As many bytes as there are, and as many as there could be, of which these are the first.
		for size := len(text); size < 10; size++ {
			add("$" + strconv.Itoa(size) + "\r\n" + text + strings.Repeat("a", size-len(text)) + "\r\n")
		}
	}
	for n := range 100000 {
		head := strconv.Itoa(n) + "\r\n"
		add(":" + head)
		add("$" + head + strings.Repeat("a", min(n, count)) + "\r\n")
		add("*" + head + strings.Repeat("$0\r\n\r\n", min(n, count)))
		if n > 0 {
			add(":-" + head)
		}
	}
	add("$-1\r\n")
	return all
}

// TestByDefinition goes through all rows of five bytes of the alphabet, or fewer, and holds them against all that Encode tells: of rows as short as these, all of it can be written down.
func TestByDefinition(t *testing.T) {
	const count = 5
	all := begins(count)
	gone := map[api.Errno]int{}
	var try func(row string)
	try = func(row string) {
		want, taken := api.ErrForm, 0
		if _, there := all[row]; there {
			want = api.ErrShort
		}
		for i := range len(row) + 1 {
			if all[row[:i]] {
				want, taken = api.OK, i
			}
		}
		gone[want]++
		if _, n, e := Decode([]byte(row)); n != taken || e != want {
			t.Fatalf("Decode(%q): %d, %d, not %d, %d", row, n, e, taken, want)
		}
		for i := range len(alphabet) {
			if len(row) < count {
				try(row + alphabet[i:i+1])
			}
		}
	}
	try("")
	if gone[api.OK] < 500 || gone[api.ErrShort] < 10000 || gone[api.ErrForm] < 100000 {
		t.Fatal("too little happened to tell:", gone)
	}
}

// TestAllSmall goes through all rows of the alphabet, from several begins on, as long as they are the begin of a reply, and by some bytes more.
func TestAllSmall(t *testing.T) {
	gone := map[api.Errno]int{}
	var try func(row string, depth int)
	try = func(row string, depth int) {
		errno := checkRow(t, row)
		gone[errno]++
		if errno == api.ErrForm || depth == 0 {
			return
		}
		for i := range len(alphabet) {
			try(row+alphabet[i:i+1], depth-1)
		}
	}
	for _, begin := range []string{"", "+OK", "-", ":-9223372036854775", ":92233720368547758", "$-1", "$0\r\n", "$1\r\n", "$2\r\n\r", "$9\r\n\r\n\r\n\r\n\r", "$109951162777", "*1\r\n", "*2\r\n$0\r\n", "*1\r\n$1\r\na", "*1\r\n$0\r\n\r\n", "*0\r\n", "*10", "*109951162777"} {
		try(begin, 4)
	}
	if gone[api.OK] < 5000 || gone[api.ErrShort] < 5000 || gone[api.ErrForm] < 5000 {
		t.Fatal("too little happened to tell:", gone)
	}
}

// drawnText is one that may stand anywhere.
func drawnText(draw func(count int) int) string {
	switch draw(8) {
	case 0:
		return strange()[draw(len(strange()))]
	case 1:
		return long(draw(200))
	case 2:
		b := make([]byte, draw(12))
		for i := range b {
			b[i] = byte(draw(256))
		}
		return string(b)
	default:
		b := make([]byte, draw(5))
		for i := range b {
			b[i] = alphabet[draw(len(alphabet))]
		}
		return string(b)
	}
}

// drawn is any reply: of any Kind, and of none, with anything beside it.
func drawn(draw func(count int) int) api.Reply {
	x := api.Reply{Kind: draw(8)}
	switch draw(4) {
	case 0:
		x.N = ints()[draw(len(ints()))]
	case 1:
		x.N = draw(1<<30) - 1<<29
	}
	if draw(3) > 0 {
		x.Text = drawnText(draw)
	}
	if draw(3) > 0 {
		for range draw(4) {
			x.L = append(x.L, drawnText(draw))
		}
	}
	return x
}

// spoiltRow is a row, of which up to two bytes are left out, are twice there, or are something else; or among which that stands.
func spoiltRow(row string, draw func(count int) int) string {
	from := draw(len(row))
	to := min(len(row), from+draw(3))
	c := draw(len(alphabet))
	instead := []string{"", row[from:to] + row[from:to], drawnText(draw), alphabet[c : c+1]}
	return row[:from] + instead[draw(len(instead))] + row[to:]
}

// TestAnyInput draws replies, Right or not, and rows of them, whole, spoilt, or cut off: each call ends, and tells what is plainly written and read.
func TestAnyInput(t *testing.T) {
	gone := map[api.Errno]int{}
	draw := scattered()
	for range 30000 {
		var l []api.Reply
		for range draw(5) {
			l = append(l, drawn(draw))
		}
		row := written(l...)
		if b := Encode(l...); string(b) != row {
			t.Fatalf("Encode(%+v): %q, not %q", l, b, row)
		}
		if row != "" {
			switch draw(3) {
			case 0:
				row = spoiltRow(row, draw)
			case 1:
				row = row[:draw(len(row))]
			}
		}
		checkRow(t, row)
		_, e := All([]byte(row))
		gone[e]++
	}
	if gone[api.OK] < 5000 || gone[api.ErrShort] < 5000 || gone[api.ErrForm] < 1000 {
		t.Fatal("too little happened to tell:", gone)
	}
}

// TestThereAndBack: what was answered is read as it was, one reply behind the other, with all that Right tells; each begin of a row is too short.
func TestThereAndBack(t *testing.T) {
	draw := scattered()
	right, changed := 0, 0
	for range 5000 {
		var l, want []api.Reply
		for range draw(4) {
			x := drawn(draw)
			p := Plain(x)
			if alike(p, x) != Right(x) || !Right(p) || !Same(Plain(p), p) {
				t.Fatalf("%+v, Plain %+v, Right %t", x, p, Right(x))
			}
			if Right(x) {
				right++
			} else {
				changed++
			}
			if draw(2) == 0 {
				x = p
			}
			l, want = append(l, x), append(want, p)
		}
		b := Encode(l...)
		if !slices.Equal(b, Encode(want...)) {
			t.Fatalf("%q, not %q", b, Encode(want...))
		}
		checkAll(t, string(b), api.OK, want...)
		for _, x := range want {
			one := string(Encode(x))
			checkDecode(t, one+string(b), x, len(one), api.OK)
			for i := range len(one) {
				checkDecode(t, one[:i], api.Reply{}, 0, api.ErrShort)
			}
		}
	}
	if right < 200 || changed < 1000 {
		t.Fatal("too little happened to tell:", right, changed)
	}
}

// FuzzReply looks for bytes, and replies, that the rows miss: go test -fuzz=FuzzReply ./reply.
func FuzzReply(f *testing.F) {
	for i, row := range rows() {
		f.Add([]byte(row), i%9, i, row)
	}
	f.Add([]byte("*3\r\n$70\r\n"+long(70)+"\r\n"), api.Simple, -1, "\xff\r\n\u65e5")
	f.Fuzz(func(t *testing.T, b []byte, kind, n int, text string) {
		row := string(b)
		checkRow(t, row)
		x := api.Reply{Kind: kind, Text: text, N: n, L: strings.SplitAfter(row, "\n")}
		one := written(x)
		if b := Encode(x); string(b) != one || Right(x) != alike(Plain(x), x) || !Right(Plain(x)) {
			t.Fatalf("%+v: %q, not %q, Right %t", x, b, one, Right(x))
		}
		checkDecode(t, one+row, Plain(x), len(one), api.OK)
		for i := range len(one) {
			checkDecode(t, one[:i], api.Reply{}, 0, api.ErrShort)
		}
	})
}

package resp

import (
	"strconv"
	"strings"
	"sync"
	"testing"

	"tapster/api"
)

// heads are all texts of a sign, a number, and 0d 0a, with their numbers, and all that one of them begins with, but for itself.
type heads struct {
	numbers map[string]int
	begins  map[string]bool
}

// newHeads writes out those of the numbers least to most.
func newHeads(sign string, least, most int) heads {
	h := heads{map[string]int{}, map[string]bool{}}
	for n := least; n <= most; n++ {
		head := sign + strconv.Itoa(n) + "\r\n"
		h.numbers[head] = n
		for i := range len(head) {
			h.begins[head[:i]] = true
		}
	}
	return h
}

// What a row is, of a thing that it is to be read as.
const (
	isWhole = iota // it begins with one
	isBegin        // one begins with it
	isWrong        // neither
)

// cut takes the head off a row.
func (h heads) cut(row string) (n int, behind string, is int) {
	for i := range len(row) + 1 {
		if n, there := h.numbers[row[:i]]; there {
			return n, row[i:], isWhole
		}
		if !h.begins[row[:i]] {
			return 0, "", isWrong
		}
	}
	return 0, "", isBegin
}

// cutEnd takes size bytes and 0d 0a off a row.
func cutEnd(row string, size int) (text, behind string, is int) {
	switch {
	case len(row) < size:
		return "", "", isBegin
	case strings.HasPrefix(row[size:], "\r\n"):
		return row[:size], row[size+2:], isWhole
	case strings.HasPrefix("\r\n", row[size:]):
		return "", "", isBegin
	default:
		return "", "", isWrong
	}
}

// both are the heads of commands, and of their arguments.
var both = sync.OnceValue(func() [2]heads {
	return [2]heads{newHeads("*", 1, 50), newHeads("$", 0, 1000)}
})

// cutCommand takes a command off a row.
func cutCommand(row string) (args []string, behind string, is int) {
	count, row, is := both()[0].cut(row)
	for range count {
		var size int
		var text string
		if size, row, is = both()[1].cut(row); is == isWhole {
			text, row, is = cutEnd(row, size)
		}
		if is != isWhole {
			return nil, "", is
		}
		args = append(args, text)
	}
	return args, row, is
}

// plain reads all bytes at once: the commands that a row begins with, how many bytes they take, and whether it is the begin of no commands.
func plain(row string) (told commands, taken int, wrong bool) {
	for {
		args, behind, is := cutCommand(row[taken:])
		if is != isWhole {
			return told, taken, is == isWrong
		}
		told, taken = append(told, args), len(row)-len(behind)
	}
}

// fed is a Reader, and what it was fed.
type fed struct {
	r    *Reader
	row  string
	told int
	gone map[string]int
}

// feed holds what one Feed tells, and what is told behind it, against what is plainly read of all that was fed. Whole has to tell the same.
func (f *fed) feed(t testing.TB, piece string) {
	t.Helper()
	_, _, was := plain(f.row)
	f.row += piece
	all, taken, wrong := plain(f.row)
	want := all[f.told:]
	f.told = len(all)
	errno, left := api.OK, len(f.row)-taken
	if wrong {
		errno, left = api.ErrProto, 0
	}
	checkFeed(t, f.row, f.r, piece, errno, want...)
	checkState(t, f.row, f.r, left, wrong)
	f.note(piece, len(want), left, wrong, was)
}

// note counts which way was gone.
func (f *fed) note(piece string, told, left int, wrong, was bool) {
	switch {
	case was:
		f.gone["wrong already"]++
	case wrong && told > 0:
		f.gone["wrong behind commands"]++
	case wrong:
		f.gone["wrong"]++
	case piece == "":
		f.gone["no bytes"]++
	case told > 1:
		f.gone["several"]++
	case told == 1:
		f.gone["one"]++
	default:
		f.gone["none"]++
	}
	if !wrong && left == 0 {
		f.gone["nothing left"]++
	}
}

func newFed(gone map[string]int) *fed {
	return &fed{r: New(), gone: gone}
}

// checkRow holds a row, all at once, and one byte at a time.
func checkRow(t testing.TB, row string) {
	t.Helper()
	told, taken, wrong := plain(row)
	errno := api.OK
	if wrong {
		errno = api.ErrProto
	}
	checkWhole(t, row, taken, errno, told...)
	gone := map[string]int{}
	newFed(gone).feed(t, row)
	f := newFed(gone)
	for i := range len(row) {
		f.feed(t, row[i:i+1])
		if f.r.Wrong() && i < len(row)-3 {
			f.feed(t, row[i+1:])
			break
		}
	}
}

// scattered draws numbers from 0 to below count, the same in every run.
func scattered() func(count int) int {
	x := uint64(88172645463325252)
	return func(count int) int {
		x ^= x << 13
		x ^= x >> 7
		x ^= x << 17
		return int((x >> 11) % uint64(count))
	}
}

// rows are of commands, whole ones and such as are not, and such as are wrong somewhere.
func rows() []string {
	return []string{
		get, ping, get + ping, ping + get + ping,
		row([]string{""}), row([]string{"", ""}), row([]string{"\r\n", "*1"}), row([]string{"$1\r\n", "\r"}, []string{"\n"}), row([]string{"*1\r\n$0\r\n\r\n"}),
		row(times(10, "")), row(times(1, long(10)), times(1, "x")), row([]string{"\x00\xff"}, []string{"\u65e5"}),
		get[:9], get + ping[:7], get + ping[:len(ping)-1], "*", "*1", "*1\r", "*50\r\n$1000\r\n0",
		get + "*0" + get, ping + "*1\r\n$01\r\na\r\n", "+" + get, get + ping + "\r\n", "*1\r\n$1\r\nab\r\n" + get, "*51\r\n", "*1\r\n$1001\r\n",
	}
}

// TestPlain holds what all others are held against: it is as the document says, of rows whose commands are known.
func TestPlain(t *testing.T) {
	for _, x := range []struct {
		row   string
		told  int
		taken int
		wrong bool
	}{
		{"", 0, 0, false}, {get, 1, len(get), false}, {get + ping + "*", 2, len(get + ping), false}, {"*0", 0, 0, true}, {get + "\r", 1, len(get), true},
		{"*50\r", 0, 0, false}, {"*51", 0, 0, true}, {"*1\r\n$1000", 0, 0, false}, {"*1\r\n$1001", 0, 0, true}, {"*1\r\n$1\r\na\rb", 0, 0, true}, {"*1\r\n$0\r\n\r\n*", 1, 10, false},
	} {
		if told, taken, wrong := plain(x.row); len(told) != x.told || taken != x.taken || wrong != x.wrong {
			t.Errorf("%q: %q, %d, %t", x.row, told, taken, wrong)
		}
	}
	for _, args := range [][]string{times(1, ""), times(50, long(1000)), strange()} {
		b := row(args, args)
		if told, taken, wrong := plain(b); !sameCommands(told, commands{args, args}) || taken != len(b) || wrong {
			t.Errorf("%q: %q, %d, %t", b, told, taken, wrong)
		}
	}
}

// TestEachByte replaces each byte of some rows by each other one, doubles it, and leaves it out.
func TestEachByte(t *testing.T) {
	for _, row := range rows() {
		checkRow(t, row)
		for i := range len(row) {
			ahead, behind := row[:i], row[i+1:]
			for c := range 256 {
				checkRow(t, ahead+string([]byte{byte(c)})+behind)
			}
			checkRow(t, ahead+row[i:i+1]+row[i:])
			checkRow(t, ahead+behind)
		}
	}
}

// TestEachByteIsRead: a byte that no command has in its place is wrong by itself, not earlier and not later; those of arguments may be any.
func TestEachByteIsRead(t *testing.T) {
	// Of each byte: n for a digit, behind which others would do, a for an argument's, and what it is for all others.
	const shape = "*n\r\n$n\r\naaa\r\n$n\r\na\r\n"
	for i := range len(get) {
		for c := range 256 {
			b := get[:i] + string([]byte{byte(c)}) + get[i+1:]
			digit := c >= '0' && c <= '9'
			switch {
			case byte(c) == get[i], shape[i] == 'a':
				checkWhole(t, b, len(b), api.OK, []string{b[8:11], b[17:18]})
			case shape[i] == 'n' && (c == '0' && i == 1 || !digit):
				checkWrongAt(t, get+b+ping, len(get)+i, []string{"GET", "a"})
			case shape[i] == 'n':
				// Another number: wrong later, where the bytes do not come to it, or not at all.
				checkWhole(t, b[:i+1], 0, api.OK)
			case shape[i] == '\r' && shape[i-1] == 'n' && digit:
				checkRow(t, b)
			default:
				checkWrongAt(t, b+get, i)
				checkWrongAt(t, get+b+ping, len(get)+i, []string{"GET", "a"})
			}
		}
	}
}

// TestCuts: however bytes are cut, in two and in three, the same comes.
func TestCuts(t *testing.T) {
	gone := map[string]int{}
	for _, row := range rows() {
		all, taken, wrong := plain(row)
		for i := range len(row) + 1 {
			for j := i; j <= len(row); j++ {
				f := newFed(gone)
				var told commands
				for _, piece := range []string{row[:i], row[i:j], row[j:]} {
					l, _ := f.r.Feed([]byte(piece))
					told = append(told, l...)
				}
				left := len(row) - taken
				if wrong {
					left = 0
				}
				if !sameCommands(told, all) {
					t.Fatalf("%q, cut at %d and %d: %q, not %q", row, i, j, told, all)
				}
				checkState(t, row, f.r, left, wrong)
				f = newFed(gone)
				f.feed(t, row[:i])
				f.feed(t, row[i:j])
				f.feed(t, row[j:])
				f.feed(t, ping)
			}
		}
	}
	for _, way := range []string{"wrong already", "wrong behind commands", "wrong", "no bytes", "several", "one", "none", "nothing left"} {
		if gone[way] < 100 {
			t.Fatal("too little happened to tell:", gone)
		}
	}
}

// alphabet is bytes that mean something, and some that mean nothing.
const alphabet = "*$\r\n0159-a"

// TestAllSmall goes through all rows of the alphabet, from several begins on, as long as they are not wrong, and by one byte more.
func TestAllSmall(t *testing.T) {
	count := 0
	var try func(row string, depth int)
	try = func(row string, depth int) {
		count++
		f := newFed(map[string]int{})
		half := len(row) / 2
		f.feed(t, row[:half])
		f.feed(t, row[half:])
		if _, _, wrong := plain(row); wrong || depth == 0 {
			return
		}
		for i := range len(alphabet) {
			try(row+alphabet[i:i+1], depth-1)
		}
	}
	for _, begin := range []string{"", "*1\r\n", "*2\r\n$0\r\n", "*1\r\n$0\r\n\r", "*1\r\n$1\r\n", "*1\r\n$10", "*1\r\n$4\r\n\r\n", ping, ping + "*1\r\n$"} {
		try(begin, 7)
	}
	if count < 10000 {
		t.Fatal("too few rows to tell:", count)
	}
}

// drawnArgs are such as May be.
func drawnArgs(draw func(count int) int) []string {
	count := 1 + draw(4)
	if draw(20) == 0 {
		count = 1 + draw(50)
	}
	args := make([]string, count)
	for i := range args {
		switch draw(8) {
		case 0:
			args[i] = strange()[draw(len(strange()))]
		case 1:
			args[i] = long(draw(30))
		case 2:
			b := make([]byte, draw(12))
			for i := range b {
				b[i] = byte(draw(256))
			}
			args[i] = string(b)
		default:
			b := make([]byte, draw(5))
			for i := range b {
				b[i] = alphabet[draw(len(alphabet))]
			}
			args[i] = string(b)
		}
	}
	if draw(60) == 0 {
		args[draw(count)] = long(1000 - draw(3))
	}
	return args
}

// spoiltRow is a row, one byte of which is another one, is left out, is twice there, or is a text that looks like more.
func spoiltRow(row string, draw func(count int) int) string {
	i := draw(len(row))
	switch draw(5) {
	case 0:
		return row[:i] + row[i+1:]
	case 1:
		return row[:i] + row[i:i+1] + row[i:]
	case 2:
		return row[:i] + string([]byte{byte(draw(256))}) + row[i+1:]
	case 3:
		return row[:i] + strange()[draw(len(strange()))] + row[i:]
	default:
		c := draw(len(alphabet))
		return row[:i] + alphabet[c:c+1] + row[i+1:]
	}
}

// cuts are a row in pieces, of at most size bytes.
func cuts(row string, size int, draw func(count int) int) []string {
	var l []string
	for row != "" {
		n := min(draw(size+1), len(row))
		l = append(l, row[:n])
		row = row[n:]
	}
	return l
}

// TestAnyInput feeds Readers rows that were drawn, whole or spoilt, cut anywhere: each call ends, and tells what is plainly read.
func TestAnyInput(t *testing.T) {
	gone := map[string]int{}
	draw := scattered()
	for range 20000 {
		var l commands
		for range draw(5) {
			l = append(l, drawnArgs(draw))
		}
		b := row(l...)
		if draw(2) == 0 && b != "" {
			b = spoiltRow(b, draw)
		}
		told, taken, wrong := plain(b)
		errno := api.OK
		if wrong {
			errno = api.ErrProto
		}
		checkWhole(t, b, taken, errno, told...)
		f := newFed(gone)
		for _, piece := range cuts(b, 1+len(b)/(1+draw(10)), draw) {
			f.feed(t, piece)
		}
	}
	for _, way := range []string{"wrong already", "wrong behind commands", "wrong", "no bytes", "several", "one", "none", "nothing left"} {
		if gone[way] < 500 {
			t.Fatal("too little happened to tell:", gone)
		}
	}
}

// TestThereAndBack: what was written is read as it was, one command behind the other, however the bytes are cut.
func TestThereAndBack(t *testing.T) {
	draw := scattered()
	r := New()
	for range 3000 {
		var l commands
		for range 1 + draw(4) {
			l = append(l, drawnArgs(draw))
		}
		b := row(l...)
		checkWhole(t, b, len(b), api.OK, l...)
		var told commands
		for _, piece := range cuts(b, 1+draw(len(b)), draw) {
			some, e := r.Feed([]byte(piece))
			if e != api.OK || r.Wrong() {
				t.Fatalf("%q, %q: %d", b, piece, e)
			}
			told = append(told, some...)
		}
		if !sameCommands(told, l) || r.Left() != 0 {
			t.Fatalf("%q: %q, %d", b, told, r.Left())
		}
		// And the other way round: what is told is written as it was read.
		if row(told...) != b {
			t.Fatalf("%q, not %q", row(told...), b)
		}
	}
}

// TestMayIsRead: Command of arguments is read, if they May be; else it is wrong.
func TestMayIsRead(t *testing.T) {
	draw := scattered()
	may, mayNot := 0, 0
	for range 2000 {
		args := make([]string, draw(60))
		for i := range args {
			if draw(40) == 0 {
				args[i] = long(990 + draw(20))
			}
		}
		b := row(args)
		if !May(args...) {
			mayNot++
			checkWhole(t, b, 0, api.ErrProto)
			continue
		}
		may++
		checkWhole(t, b, len(b), api.OK, args)
	}
	if may < 500 || mayNot < 500 {
		t.Fatal("too little happened to tell:", may, mayNot)
	}
}

// FuzzResp looks for bytes, and cuts, that the rows miss: go test -fuzz=FuzzResp ./resp.
func FuzzResp(f *testing.F) {
	for i, row := range rows() {
		f.Add([]byte(row), []byte{byte(i), 3, byte(len(row) / 2)})
	}
	f.Add([]byte(row(times(1, long(1000)))), []byte{200, 200, 200, 0, 200, 200, 1})
	f.Add([]byte(row(times(50, ""))), []byte{1, 1, 1, 0, 0, 7})
	f.Fuzz(func(t *testing.T, b, sizes []byte) {
		rest := string(b)
		told, taken, wrong := plain(rest)
		errno := api.OK
		if wrong {
			errno = api.ErrProto
		}
		checkWhole(t, rest, taken, errno, told...)
		fed := newFed(map[string]int{})
		for _, size := range sizes {
			n := min(int(size), len(rest))
			fed.feed(t, rest[:n])
			rest = rest[n:]
		}
		fed.feed(t, rest)
		fed.feed(t, get)
		for _, args := range told {
			if !May(args...) {
				t.Fatalf("%q", args)
			}
		}
		if b = b[:taken]; string(b) != row(told...) {
			t.Fatalf("%q", b)
		}
	})
}

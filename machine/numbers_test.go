package machine

import (
	"strconv"
	"strings"
	"testing"
)

// TestSetGet: a number of 64 bits, by any bytes.
func TestSetGet(t *testing.T) {
	m := New(1, 0, 9)
	for _, n := range []string{"0", "1", "-1", "42", "9223372036854775807", "-9223372036854775808"} {
		checkSteps(t, m,
			step{0, "SET k " + n, "+OK"},
			step{0, "GET k", ":" + n},
			step{0, "GET K", "none"},
			step{0, "TTL k", ":-1"})
	}
	for _, key := range []string{" ", "\x00", "\xff", "a b\r\n", "é", "e\u0301", "k:1", "-", strings.Repeat("k", 100)} {
		a := m.Copy()
		for _, x := range []struct {
			args []string
			want string
		}{
			{[]string{"GET", key}, "none"}, {[]string{"SET", key, "7"}, "+OK"}, {[]string{"GET", key}, ":7"}, {[]string{"INCRBY", key, "-9"}, ":-2"}, {[]string{"EXPIRE", key, "5"}, ":1"}, {[]string{"TTL", key}, ":5"}, {[]string{"DEL", key}, ":1"}, {[]string{"GET", key}, "none"},
		} {
			if got := said(t, a.Do(0, x.args...)); got != x.want {
				t.Fatalf("%q: %s, not %s", x.args, got, x.want)
			}
		}
	}
}

// TestNoKey: of a key that is not there, or no more.
func TestNoKey(t *testing.T) {
	for _, ahead := range [][]step{
		nil,
		{{0, "SET k 5", "+OK"}, {0, "DEL k", ":1"}},
		{{0, "SET k 5", "+OK"}, {0, "EXPIRE k 0", ":1"}},
		{{0, "SET k 5", "+OK"}, {0, "EXPIRE k 9", ":1"}, {9, "PING", "+PONG"}},
		{{0, "SET k 5", "+OK"}, {0, "EXPIRE k 9", ":1"}, {10, "PING", "+PONG"}},
		{{late, "SET k 5", "+OK"}, {0, "EXPIRE k 9", ":1"}},
		{{0, "SET k 9223372036854775808", "-ERR 2"}},
	} {
		m := New(1, 0, 1)
		checkSteps(t, m, ahead...)
		before := m.Copy()
		checkSteps(t, m,
			step{0, "GET k", "none"},
			step{0, "TTL k", ":-2"},
			step{0, "DEL k", ":0"},
			step{0, "EXPIRE k 5", ":0"},
			step{0, "EXPIRE k 0", ":0"},
			step{0, "EXPIRE k 9007199254740992", ":0"})
		if got := stats(t, m, 0)[4]; got != 0 {
			t.Fatal(ahead, got)
		}
		checkTrial(t, m, 0, "INCRBY k 3", ":3")
		checkTrial(t, m, 0, "INCRBY k -9223372036854775808", ":-9223372036854775808")
		checkTrial(t, m, 0, "SET l 3", "+OK")
		checkTrial(t, before, 0, "SET k 3", "+OK")
	}
}

// TestEnds: at its time a key is gone, one before it is not; and what was set anew has no end.
func TestEnds(t *testing.T) {
	for _, x := range []struct{ now, span, end int }{{0, 1, 1}, {5, 10, 15}, {5, late - 6, late - 1}, {5, late, late}, {late - 1, 1, late}, {late - 1, late, late}} {
		m := New(1, 0, 2)
		checkSteps(t, m,
			step{x.now, "SET k 5", "+OK"},
			step{x.now, "TTL k", ":-1"},
			step{x.now, "EXPIRE k " + strconv.Itoa(x.span), ":1"},
			step{x.now, "TTL k", ":" + strconv.Itoa(x.end-x.now)},
			step{x.end - 1, "TTL k", ":1"},
			step{x.end - 1, "GET k", ":5"})
		a := m.Copy()
		checkSteps(t, a,
			step{x.end - 1, "SET k 6", "+OK"},
			step{x.end - 1, "TTL k", ":-1"},
			step{x.end, "GET k", ":6"},
			step{most, "GET k", ":6"})
		a = m.Copy()
		// A sum keeps the end.
		checkSteps(t, a,
			step{x.end - 1, "INCRBY k 2", ":7"},
			step{x.end - 1, "TTL k", ":1"},
			step{x.end, "GET k", "none"},
			step{x.end, "INCRBY k 2", ":2"},
			step{x.end, "TTL k", ":-1"})
		checkTrial(t, m, x.end-1, "DEL k", ":1")
		for _, now := range []int{x.end, x.end + 1, most} {
			checkTrial(t, m, now, "GET k", "none")
			checkTrial(t, m, now, "TTL k", ":-2")
			checkTrial(t, m, now, "DEL k", ":0")
			checkTrial(t, m, now, "EXPIRE k 1", ":0")
			checkTrial(t, m, now, "INCRBY k 2", ":2")
			checkTrial(t, m, now, "SET k 2", "+OK")
		}
		// And stays so, though the clock be told to go back.
		checkSteps(t, m, step{x.end, "PING", "+PONG"}, step{x.now, "GET k", "none"}, step{0, "TTL k", ":-2"})
	}
}

// TestAgainAndAgain: a later end takes an earlier one's place, and the other way.
func TestAgainAndAgain(t *testing.T) {
	checkSteps(t, New(1, 0, 2),
		step{0, "SET k 5", "+OK"},
		step{0, "EXPIRE k 10", ":1"},
		step{3, "EXPIRE k 20", ":1"},
		step{3, "TTL k", ":20"},
		step{4, "EXPIRE k 2", ":1"},
		step{0, "TTL k", ":2"},
		step{4, "GET k", ":5"},
		step{5, "EXPIRE k 0", ":1"},
		step{5, "EXPIRE k 0", ":0"},
		step{5, "GET k", "none"})
}

// TestSums: the greatest and the least number, and one beyond, which is an error and changes nothing.
func TestSums(t *testing.T) {
	for _, x := range []struct{ set, more, want string }{
		{"9223372036854775806", "1", ":9223372036854775807"},
		{"9223372036854775807", "0", ":9223372036854775807"},
		{"9223372036854775807", "1", "-ERR 6"},
		{"1", "9223372036854775807", "-ERR 6"},
		{"9223372036854775807", "9223372036854775807", "-ERR 6"},
		{"-9223372036854775807", "-1", ":-9223372036854775808"},
		{"-9223372036854775808", "0", ":-9223372036854775808"},
		{"-9223372036854775808", "-1", "-ERR 6"},
		{"-1", "-9223372036854775808", "-ERR 6"},
		{"-9223372036854775808", "-9223372036854775808", "-ERR 6"},
		{"-9223372036854775808", "9223372036854775807", ":-1"},
		{"9223372036854775807", "-9223372036854775808", ":-1"},
		{"0", "9223372036854775807", ":9223372036854775807"},
		{"0", "-9223372036854775808", ":-9223372036854775808"},
	} {
		for _, end := range []string{"", "EXPIRE k 50"} {
			m := New(1, 0, 2)
			checkDo(t, m, 5, "SET k "+x.set, "+OK")
			if end != "" {
				checkDo(t, m, 5, end, ":1")
			}
			before := m.Copy()
			checkDo(t, m, 5, "INCRBY k "+x.more, x.want)
			if strings.HasPrefix(x.want, "-") {
				checkSame(t, "too great", m, before)
				checkDo(t, m, 5, "GET k", ":"+x.set)
			} else {
				checkDo(t, m, 5, "GET k", x.want)
			}
			checkDo(t, m, 5, "TTL k", said(t, before.Do(5, "TTL", "k")))
		}
	}
}

// TestNumbersRoom: one more than there is room for, and room that comes when one ends, or is gone.
func TestNumbersRoom(t *testing.T) {
	for _, room := range []int{least, -1, 0, 1, 2, 7, most} {
		m := New(1, 0, room)
		count := min(max(room, 0), 10000)
		for i := range count {
			checkDo(t, m, 0, "SET k"+strconv.Itoa(i)+" 5", "+OK")
		}
		before := m.Copy()
		checkSteps(t, m,
			step{0, "SET more 5", "-ERR 5"},
			step{0, "INCRBY more 5", "-ERR 5"},
			step{0, "GET more", "none"},
			step{0, "EXPIRE more 5", ":0"})
		checkSame(t, "full", m, before)
		if count == 0 {
			continue
		}
		last := "k" + strconv.Itoa(count-1)
		checkSteps(t, m,
			step{0, "SET " + last + " 6", "+OK"},
			step{0, "INCRBY " + last + " 1", ":7"},
			step{0, "EXPIRE " + last + " 10", ":1"},
			step{9, "SET more 5", "-ERR 5"},
			step{9, "INCRBY more 5", "-ERR 5"})
		checkTrial(t, m, 9, "INCRBY "+last+" 1", ":8")
		for _, line := range []string{"SET more 5", "INCRBY more 5"} {
			a := m.Copy()
			r := said(t, a.Do(10, args(line)...))
			if strings.HasPrefix(r, "-") {
				t.Fatal(line, r)
			}
			checkDo(t, a, 10, "GET more", ":5")
			checkDo(t, a, 10, "SET "+last+" 5", "-ERR 5")
			a = m.Copy()
			checkDo(t, a, 9, "DEL "+last, ":1")
			checkDo(t, a, 9, line, r)
			checkDo(t, a, 9, "SET "+last+" 5", "-ERR 5")
		}
	}
}

// TestNumbersAndPolicies: a key and a policy of one name know nothing of one another.
func TestNumbersAndPolicies(t *testing.T) {
	m := New(1, 1, 1)
	checkSteps(t, m,
		step{0, "SET p 5", "+OK"},
		step{0, "DROP p", ":0"},
		step{0, "TAKE - p:0:1", "-ERR 4"},
		step{0, "POLICY p 4 5 10 0 0 0", ":1"},
		step{0, "TAKE p p:1:1", "+OK"},
		step{0, "GET p", ":5"},
		step{0, "DEL p", ":1"},
		step{0, "TAKE p p:1:5", "-DENIED 10"},
		step{0, "DROP p", ":1"},
		step{0, "GET p", "none"})
}

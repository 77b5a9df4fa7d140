package server

import (
	"slices"
	"strings"
	"testing"

	"tapster/api"
	"tapster/reply"
	"tapster/resp"
)

// bytesBy is the Do of bytes that come by a connection.
func bytesBy(conn int, text string) api.Do {
	return api.Do{Kind: api.DoBytes, Conn: conn, Data: []byte(text)}
}

// feed feeds a piece; as many commands wait then.
func feed(t testing.TB, s *Server, conn int, piece string, waiting int) {
	t.Helper()
	if !s.Act(bytesBy(conn, piece)) {
		t.Fatalf("%.50q is not taken", piece)
	}
	if got := s.Waiting(conn); got != waiting {
		t.Fatalf("behind %.50q %d wait, not %d", piece, got, waiting)
	}
}

// TestPieces: of nothing, of one byte, of a part of a command, of several, of one and a part of the next.
func TestPieces(t *testing.T) {
	s := begun(t, 1, 2)
	ping, get := row("PING"), row("GET k")
	feed(t, s, 1, "", 0)
	feed(t, s, 1, ping[:1], 0)
	feed(t, s, 1, "", 0)
	feed(t, s, 1, ping[1:9], 0)
	feed(t, s, 1, ping[9:len(ping)-1], 0)
	checkRunnable(t, s)
	feed(t, s, 1, ping[len(ping)-1:], 1)
	checkRunnable(t, s, 1)
	feed(t, s, 1, "", 1)
	feed(t, s, 1, get+ping+get[:5], 3)
	feed(t, s, 1, get[5:]+ping[:13], 4)
	feed(t, s, 1, ping[13:], 5)
	// What comes by another one is another one's.
	feed(t, s, 0, get[:7], 0)
	feed(t, s, 1, ping[:7], 5)
	feed(t, s, 0, get[7:], 1)
	feed(t, s, 1, ping[7:], 6)
	if n := s.Drain(9); n != 7 {
		t.Fatal(n)
	}
	checkOut(t, s, 0, ":1\r\n$-1\r\n")
	checkOut(t, s, 1, "+PONG\r\n$-1\r\n+PONG\r\n$-1\r\n+PONG\r\n+PONG\r\n")
	checkWaiting(t, s)
}

// TestMuch: many commands in one piece, and one in very many.
func TestMuch(t *testing.T) {
	const count = 20000
	s := begun(t, 2, 3)
	feed(t, s, 1, strings.Repeat(row("PING"), count), count)
	for range count {
		feed(t, s, 2, "", 0)
	}
	feed(t, s, 2, row("PING")[:13], 0)
	if n := s.Drain(count - 5); n != count-5 || s.Waiting(1) != 5 {
		t.Fatal(n, s.Waiting(1))
	}
	feed(t, s, 2, "\n", 1)
	if n := s.Drain(count); n != 6 {
		t.Fatal(n)
	}
	checkOut(t, s, 1, strings.Repeat("+PONG\r\n", count))
	checkOut(t, s, 2, "+PONG\r\n")
}

// streams are rows that come by one connection, and what is to be read of them: whole commands, a part of one, or what is WRONG.
func streams() []string {
	all := row("PING", "TAKE "+wish(2, 2, 0, 1), "STATS")
	return []string{
		all, row("TAKE x c:1:3", "TAKE x c:1:3", "RESERVE 9 x c:1:2", "COMMIT 1", "STATS"), all[:len(all)-3], row("GET") + "*2\r\n$3\r\nGET\r\n$1\r\n\n\r\n" + row("SET k 5", "foo"),
		"x", all + "x" + all, row("PING") + "*1\r\n$4\r\nPING\n", row("PING") + "*0\r\n" + row("PING"), row("TAKE x c:1:1") + "*2\r\n$3\r\nGET\r\n$-1\r\n",
	}
}

// inPieces feeds a stream cut so, with so many picks behind each piece, and goes on to the end.
func inPieces(t testing.TB, pieces []string, picks int) *Server {
	t.Helper()
	s := begun(t, 2, 2)
	for _, piece := range pieces {
		wrong := s.at(1).Wrong() || !s.Live(1)
		if s.Act(bytesBy(1, piece)) == wrong {
			t.Fatalf("%q: %t", pieces, wrong)
		}
		s.Drain(picks)
	}
	s.Drain(1000)
	return s
}

// checkCut holds that of pieces the same comes as of all at once.
func checkCut(t testing.TB, picks int, pieces ...string) {
	t.Helper()
	stream := strings.Join(pieces, "")
	s, whole := inPieces(t, pieces, picks), inPieces(t, []string{stream}, 0)
	if x, y := told(t, s), told(t, whole); x != y {
		t.Fatalf("%q, %d picks: %s\nnot %s", pieces, picks, x, y)
	}
}

// TestCuts is the seventh promise, by connections: however bytes are cut, and whatever is picked between the pieces, the same comes.
func TestCuts(t *testing.T) {
	draw := scattered()
	for _, stream := range streams() {
		for _, picks := range []int{0, 1, 2, 1000} {
			for i := range len(stream) + 1 {
				checkCut(t, picks, stream[:i], stream[i:])
			}
			checkCut(t, picks, strings.Split(stream, "")...)
			for range 50 {
				var pieces []string
				for rest := stream; rest != ""; {
					n := min(draw(9)*draw(9), len(rest))
					pieces = append(pieces, rest[:n])
					rest = rest[n:]
				}
				checkCut(t, picks, pieces...)
			}
		}
	}
}

// TestStreams: what comes of them, at all.
func TestStreams(t *testing.T) {
	for i, want := range []string{
		"+PONG\r\n+OK\r\n" + stats("clock 0", "policies 1", "cells 2", "held 0", "numbers 0", "granted 1", "denied 0", "unavailable 0"),
		"+OK\r\n-DENIED 100\r\n:1\r\n+OK\r\n" + stats("clock 0", "policies 1", "cells 1", "held 0", "numbers 0", "granted 2", "denied 1", "unavailable 0"),
		"+PONG\r\n+OK\r\n",
		"-ERR 11\r\n$-1\r\n+OK\r\n-ERR 10\r\n",
		"-ERR 7\r\n",
		"+PONG\r\n+OK\r\n" + stats("clock 0", "policies 1", "cells 2", "held 0", "numbers 0", "granted 1", "denied 0", "unavailable 0") + "-ERR 7\r\n",
		"+PONG\r\n-ERR 7\r\n",
		"+PONG\r\n-ERR 7\r\n",
		"+OK\r\n-ERR 7\r\n",
	} {
		checkOut(t, inPieces(t, []string{streams()[i]}, 0), 1, want)
	}
}

// stats are the bytes of what STATS tells.
func stats(lines ...string) string {
	return string(reply.Encode(api.Reply{Kind: api.List, L: lines}))
}

// TestArguments: bytes of every value, none, as many arguments as there may be, and as long ones.
func TestArguments(t *testing.T) {
	var all []byte
	for c := range 256 {
		all = append(all, byte(c))
	}
	long := strings.Repeat("\r\n", api.MaxArg/2)
	for _, l := range [][]string{
		{string(all)}, {"GET", string(all)}, {""}, {"", ""}, {"PING", ""}, {"\r\n"}, {"*1\r\n$4\r\nPING\r\n", "$1\r\n"}, {"GET", "\xff"}, {"é", "e\u0301", "\ufffd"}, {long}, {"SET", long[1:], "5"},
		slices.Repeat([]string{""}, api.MaxArgs), slices.Repeat([]string{long}, api.MaxArgs), append([]string{"TAKE"}, slices.Repeat([]string{"x"}, api.MaxArgs-1)...), {"SET", "\x00\r\n\xfe", "-9"},
	} {
		s := begun(t, 1, 2)
		feed(t, s, 1, string(resp.Command(l...))+string(resp.Command(l...)), 2)
		s.Drain(9)
		h := s.History()
		if len(h) != 3 || !slices.Equal(h[1].Args, l) || !slices.Equal(h[2].Args, l) || h[1].Conn != 1 {
			t.Fatalf("%.50q: %.200q", l, events(t, s))
		}
		checkLive(t, s, 0, 1)
	}
	for c := range 256 {
		s := begun(t, 1, 1)
		key := "k" + string([]byte{byte(c)})
		feed(t, s, 0, string(resp.Command("SET", key, "5"))+string(resp.Command("GET", key))+string(resp.Command("GET", key+" ")), 3)
		s.Drain(9)
		checkOut(t, s, 0, ":1\r\n+OK\r\n:5\r\n$-1\r\n")
	}
}

// wrongs are bytes that are the begin of no command: of no arguments, of too many, of one that is too long, and others.
func wrongs() []string {
	return []string{
		"x", "\x00", "\xff", "\r", "\n", " *1", "PING\r\n", "$4\r\nPING\r\n", "+PONG\r\n", "*x", "*\r", "*01", "*-1", "*0", "*51", "*100", "*1\n", "*1\rx", "*1\r\n*", "*1\r\n$\r", "*1\r\n$-", "*1\r\n$01", "*1\r\n$1001", "*1\r\n$1\rx",
		"*1\r\n$1\r\nab", "*1\r\n$0\r\na", "*1\r\n$1\r\na\n", "*1\r\n$1\r\na\rx", "*1\r\n$9999",
		string(resp.Command()), string(resp.Command(slices.Repeat([]string{"x"}, api.MaxArgs+1)...)), string(resp.Command(strings.Repeat("x", api.MaxArg+1))), string(resp.Command("GET", strings.Repeat("x", api.MaxArg+1))),
	}
}

// TestWrongAtOnce: with an empty QUEUE it is ENDED at once, in one piece or in several, and no event comes of it.
func TestWrongAtOnce(t *testing.T) {
	for _, wrong := range wrongs() {
		for _, ahead := range []string{"", row("PING"), row("TAKE " + wish(2, 2, 0, 1))} {
			for i := range min(len(wrong), 60) {
				s := begun(t, 2, 3)
				feed(t, s, 1, ahead, min(len(ahead), 1))
				s.Drain(9)
				before, done := string(s.Out(1)), len(s.History())
				for _, piece := range []string{wrong[:i], wrong[i:]} {
					checkOut(t, s, 1, before)
					if s.Live(1) {
						feed(t, s, 1, piece, 0)
					}
					if !s.Live(1) {
						break
					}
				}
				checkOut(t, s, 1, before+"-ERR 7\r\n")
				checkLive(t, s, 0, 2)
				checkRunnable(t, s)
				checkFree(t, s)
				do(t, s, "!1: PING", "!pick 1", "!close 1", "!1< ", "!1< x", "0: PING", "pick 0")
				checkOut(t, s, 1, before+"-ERR 7\r\n")
				if n := len(s.History()); n != done+1 {
					t.Fatalf("%q: %d events, not %d", wrong, n, done+1)
				}
			}
		}
	}
}

// TestWrongBehind: commands that wait are answered first, then it is told once that what came is WRONG, and then it is LIVE no more.
func TestWrongBehind(t *testing.T) {
	for _, wrong := range wrongs() {
		for _, pieces := range [][]string{
			{row("PING", "TAKE "+wish(2, 2, 0, 1), "GET k") + wrong},
			{row("PING", "TAKE "+wish(2, 2, 0, 1), "GET k"), wrong},
			{row("PING"), row("TAKE " + wish(2, 2, 0, 1)), row("GET k") + wrong + row("PING")},
			{row("PING", "TAKE "+wish(2, 2, 0, 1))[:20], row("PING", "TAKE "+wish(2, 2, 0, 1))[20:], row("GET k"), wrong[:1], wrong[1:]},
		} {
			s := begun(t, 2, 3)
			for i, piece := range pieces {
				if i == len(pieces)-1 && len(pieces) == 5 && s.at(1).Wrong() {
					do(t, s, "!1: PING")
					break
				}
				if !s.Act(bytesBy(1, piece)) {
					t.Fatalf("%.50q", piece)
				}
			}
			want := ""
			for i, answer := range []string{"+PONG\r\n", "", "", "+OK\r\n", "$-1\r\n"} {
				checkLive(t, s, 0, 1, 2)
				checkOut(t, s, 1, want)
				do(t, s, "!1: PING", "!1< ", "!1< x", "pick 1")
				want += answer
				checkWaiting(t, s, 0, []int{2, 2, 2, 1, 0}[i])
			}
			checkOut(t, s, 1, want+"-ERR 7\r\n")
			checkLive(t, s, 0, 2)
			do(t, s, "!1: PING", "!1< x", "!pick 1", "!close 1")
			checkOut(t, s, 1, want+"-ERR 7\r\n")
			checkFree(t, s)
		}
	}
}

// TestClosedAheadOfWrong: what is closed while commands wait is not told that what came is WRONG.
func TestClosedAheadOfWrong(t *testing.T) {
	s := begun(t, 2, 2)
	do(t, s, "1: PING", "1: PING", "1< x", "pick 1", "close 1", "!pick 1")
	checkOut(t, s, 1, "+PONG\r\n")
	checkLive(t, s, 0)
	checkWaiting(t, s)
}

// TestWrongAlone: all others are answered as if it had not been.
func TestWrongAlone(t *testing.T) {
	script := []string{"0: TAKE " + wish(2, 2, 0), "2: TAKE " + wish(2, 2, 0, 1), "pick 2", "tick 9", "0: PING", "2< *1\r\n$4\r\nPI", "pick 2", "pick 2", "pick 0", "2< NG\r\n", "pick 2", "pick 0", "pick 0"}
	plain := begun(t, 2, 3)
	do(t, plain, script...)
	for _, wrong := range wrongs() {
		for at := range len(script) + 1 {
			for waiting, answers := range map[string]string{"": "", row("PING"): "+PONG\r\n", row("PING", "GET k"): "+PONG\r\n$-1\r\n"} {
				s := begun(t, 2, 3)
				do(t, s, script[:at]...)
				if !s.Act(bytesBy(1, waiting+wrong)) {
					t.Fatal("not taken")
				}
				do(t, s, script[at:]...)
				if waiting != "" {
					checkOut(t, s, 1, "")
				}
				checkOut(t, s, 0, string(plain.Out(0)))
				checkOut(t, s, 2, string(plain.Out(2)))
				if got, want := events(t, s), events(t, plain); !slices.Equal(got, want) {
					t.Fatalf("%q, not %q", got, want)
				}
				s.Drain(9)
				checkOut(t, s, 1, answers+"-ERR 7\r\n")
			}
		}
	}
}

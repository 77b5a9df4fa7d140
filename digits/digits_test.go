package digits

import (
	"math/big"
	"strconv"
	"strings"
	"testing"
)

const (
	most  = 1<<63 - 1
	least = -1 << 63
)

// edges are the numbers around which a text gets longer, a sign comes or the 64 bits end.
func edges() []int {
	l := []int{least, least + 1, least + 2, most - 2, most - 1, most, 0}
	for power := 1; ; power *= 10 {
		for d := -2; d <= 2; d++ {
			l = append(l, power+d, -power+d)
		}
		if power > most/10 {
			break
		}
	}
	for s := range 63 {
		l = append(l, 1<<s, -1<<s, 1<<s-1, 1-1<<s)
	}
	return l
}

// scattered are numbers of all lengths and both signs, the same in every run.
func scattered(count int) []int {
	l := make([]int, count)
	x := uint64(88172645463325252)
	for i := range l {
		x ^= x << 13
		x ^= x >> 7
		x ^= x << 17
		l[i] = int(x) >> (i % 64)
	}
	return l
}

// exact is what the document asks of Parse of s: the number is read by the library, and only if it is written that way.
func exact(s string) (int, bool) {
	n, err := strconv.Atoi(s)
	if err != nil || strconv.Itoa(n) != s {
		return 0, false
	}
	return n, true
}

func checkNumber(t *testing.T, n int) {
	t.Helper()
	want := strconv.Itoa(n)
	got := Print(n)
	if got != want {
		t.Fatalf("Print(%s): %q", want, got)
	}
	if count := Count(n); count != len(want) {
		t.Fatalf("Count(%s): %d, not %d", want, count, len(want))
	}
	if back, ok := Parse(got); back != n || !ok {
		t.Fatalf("Parse(%q): %d, %t", got, back, ok)
	}
}

func checkText(t *testing.T, s string) {
	t.Helper()
	want, right := exact(s)
	if got, ok := Parse(s); got != want || ok != right {
		t.Fatalf("Parse(%q): %d, %t, not %d, %t", s, got, ok, want, right)
	}
}

func checkUpto(t *testing.T, s string, low, high int) {
	t.Helper()
	want, right := exact(s)
	if want < low || want > high {
		want, right = 0, false
	}
	if got, ok := Upto(s, low, high); got != want || ok != right {
		t.Fatalf("Upto(%q, %d, %d): %d, %t, not %d, %t", s, low, high, got, ok, want, right)
	}
}

func TestPrintCount(t *testing.T) {
	for _, x := range []struct {
		n    int
		want string
	}{
		{0, "0"},
		{7, "7"},
		{-1, "-1"},
		{9, "9"},
		{10, "10"},
		{-9, "-9"},
		{-10, "-10"},
		{120, "120"},
		{-12, "-12"},
		{1000000, "1000000"},
		{most, "9223372036854775807"},
		{least, "-9223372036854775808"},
		{least + 1, "-9223372036854775807"},
	} {
		if got := Print(x.n); got != x.want {
			t.Errorf("Print(%d): %q, not %q", x.n, got, x.want)
		}
		if got := Count(x.n); got != len(x.want) {
			t.Errorf("Count(%d): %d, not %d", x.n, got, len(x.want))
		}
	}
}

func TestParseRight(t *testing.T) {
	for _, x := range []struct {
		s    string
		want int
	}{
		{"0", 0},
		{"7", 7},
		{"-1", -1},
		{"-12", -12},
		{"120", 120},
		{"1000000000000000000", 1000000000000000000},
		{"9223372036854775807", most},
		{"-9223372036854775807", -most},
		{"-9223372036854775808", least},
	} {
		if got, ok := Parse(x.s); got != x.want || !ok {
			t.Errorf("Parse(%q): %d, %t, not %d, true", x.s, got, ok, x.want)
		}
	}
}

func TestParseWrong(t *testing.T) {
	for name, s := range map[string]string{
		"nothing":                        "",
		"a sign alone":                   "-",
		"another sign alone":             "+",
		"two signs":                      "--1",
		"two signs alone":                "--",
		"a sign behind":                  "1-",
		"a sign within":                  "1-2",
		"a plus":                         "+1",
		"a plus behind a sign":           "-+1",
		"nought below 0":                 "-0",
		"two noughts":                    "00",
		"noughts ahead":                  "007",
		"noughts ahead, below 0":         "-07",
		"twenty noughts":                 "00000000000000000000",
		"a blank ahead":                  " 1",
		"a blank behind":                 "1 ",
		"a blank alone":                  " ",
		"an end of line":                 "1\n",
		"a letter":                       "a",
		"a letter behind":                "1a",
		"sixteens":                       "0x1",
		"a line below":                   "1_000",
		"a power":                        "1e3",
		"a fraction":                     "1.0",
		"the byte ahead of 0":            "/",
		"the byte behind 9":              ":",
		"ten as a digit":                 "1:",
		"the byte 0":                     "\x00",
		"a byte 0 behind":                "1\x00",
		"the byte ff":                    "\xff",
		"0 less the byte ff":             "-\xff",
		"digits of another script":       "\u0661",
		"wide digits":                    "\uff11",
		"2^63":                           "9223372036854775808",
		"-2^63 - 1":                      "-9223372036854775809",
		"2^64 - 1":                       "18446744073709551615",
		"2^64":                           "18446744073709551616",
		"2^64 + 1":                       "18446744073709551617",
		"-2^64 - 1":                      "-18446744073709551617",
		"twenty nines":                   "99999999999999999999",
		"nineteen nines":                 "9999999999999999999",
		"nineteen nines, below 0":        "-9999999999999999999",
		"10^20":                          "100000000000000000000",
		"thirty digits":                  "123456789012345678901234567890",
		"noughts ahead of the greatest":  "09223372036854775807",
		"noughts, longer than any":       "0009223372036854775807",
		"longer than any":                strings.Repeat("9", 1<<20),
		"noughts, much longer than any":  strings.Repeat("0", 1<<20) + "1",
		"signs, much longer than any":    strings.Repeat("-", 1<<20),
		"2^128, which wraps to nothing":  "340282366920938463463374607431768211456",
		"2^128 + 1, which wraps to one":  "340282366920938463463374607431768211457",
		"-2^128 - 1, which wraps to one": "-340282366920938463463374607431768211457",
	} {
		if got, ok := Parse(s); got != 0 || ok {
			t.Errorf("%s: %d, %t", name, got, ok)
		}
		if got, ok := Upto(s, least, most); got != 0 || ok {
			t.Errorf("%s, Upto: %d, %t", name, got, ok)
		}
	}
}

func TestUpto(t *testing.T) {
	for _, x := range []struct {
		s         string
		low, high int
		want      int
		ok        bool
	}{
		{"5", 3, 7, 5, true},
		{"3", 3, 7, 3, true},
		{"7", 3, 7, 7, true},
		{"2", 3, 7, 0, false},
		{"8", 3, 7, 0, false},
		{"-5", 3, 7, 0, false},
		{"-5", -7, -3, -5, true},
		{"-3", -7, -3, -3, true},
		{"-7", -7, -3, -7, true},
		{"-2", -7, -3, 0, false},
		{"-8", -7, -3, 0, false},
		{"5", -7, -3, 0, false},
		{"0", 0, 0, 0, true},
		{"1", 0, 0, 0, false},
		{"-1", 0, 0, 0, false},
		{"0", -1, 1, 0, true},
		{"0", 1, 2, 0, false},
		{"5", 7, 3, 0, false},
		{"7", 7, 3, 0, false},
		{"3", 7, 3, 0, false},
		{"0", 1, -1, 0, false},
		{"0", most, least, 0, false},
		{"-9223372036854775808", most, least, 0, false},
		{"9223372036854775807", most, least, 0, false},
		{"9223372036854775807", most, most, most, true},
		{"9223372036854775806", most, most, 0, false},
		{"9223372036854775807", least, most - 1, 0, false},
		{"-9223372036854775808", least, least, least, true},
		{"-9223372036854775807", least, least, 0, false},
		{"-9223372036854775808", least + 1, most, 0, false},
		{"9223372036854775807", least, most, most, true},
		{"-9223372036854775808", least, most, least, true},
		{"", 0, 7, 0, false},
		{"-", -7, 7, 0, false},
		{"05", 3, 7, 0, false},
		{"-0", -7, 7, 0, false},
		{"+5", 3, 7, 0, false},
		{"5a", 3, 7, 0, false},
		{"18446744073709551621", 3, 7, 0, false},
	} {
		if got, ok := Upto(x.s, x.low, x.high); got != x.want || ok != x.ok {
			t.Errorf("Upto(%q, %d, %d): %d, %t, not %d, %t", x.s, x.low, x.high, got, ok, x.want, x.ok)
		}
	}
}

// TestThereAndBack is P7: what was printed is parsed as it was.
func TestThereAndBack(t *testing.T) {
	for n := -100000; n <= 100000; n++ {
		checkNumber(t, n)
	}
	for _, n := range edges() {
		checkNumber(t, n)
	}
	for _, n := range scattered(100000) {
		checkNumber(t, n)
	}
}

// TestOneText is P7 the other way round: a text that is parsed is what its number prints, so that no two texts are of one number.
func TestOneText(t *testing.T) {
	const bytes = "-+019 a\x00\xff"
	texts := []string{""}
	for from, length := 0, 1; length <= 5; length++ {
		till := len(texts)
		for _, s := range texts[from:till] {
			for i := range len(bytes) {
				texts = append(texts, s+bytes[i:i+1])
			}
		}
		from = till
	}
	for _, s := range texts {
		checkText(t, s)
	}
	for _, n := range append(edges(), scattered(2000)...) {
		s := Print(n)
		for _, x := range []string{"0" + s, "+" + s, "-" + s, " " + s, s + " ", s + "0", s[1:], s[:len(s)-1], s + s, "-0" + s} {
			checkText(t, x)
		}
	}
}

// TestAnyInput is P1: each call ends without a panic and tells what is right, whatever it is given.
func TestAnyInput(t *testing.T) {
	for first := range 256 {
		for second := range 256 {
			pair := string([]byte{byte(first), byte(second)})
			checkText(t, pair[:1])
			checkText(t, pair)
			checkText(t, "-"+pair)
			checkText(t, pair+"9223372036854775807")
		}
	}
	l := edges()
	for _, n := range l {
		for _, low := range l[:40] {
			for _, high := range l[:40] {
				checkUpto(t, strconv.Itoa(n), low, high)
			}
			checkUpto(t, "0"+strconv.Itoa(n), low, n)
			checkUpto(t, strconv.Itoa(n), n, low)
		}
	}
}

// TestTooGreat goes round the 64 bits more than once: a text beyond them is no number's, wherever a sum that wraps would land.
func TestTooGreat(t *testing.T) {
	turn := new(big.Int).Lsh(big.NewInt(1), 64)
	for _, n := range append(edges(), scattered(2000)...) {
		for times := int64(1); times <= 12; times++ {
			away := new(big.Int).Mul(turn, big.NewInt(times))
			checkText(t, new(big.Int).Add(big.NewInt(int64(n)), away).String())
			checkText(t, new(big.Int).Sub(big.NewInt(int64(n)), away).String())
		}
	}
}

// FuzzDigits looks for inputs that the edges miss: go test -fuzz=FuzzDigits ./digits.
func FuzzDigits(f *testing.F) {
	f.Add("-12", -12, 7)
	f.Add("007", least, most)
	f.Add("9223372036854775808", most, least)
	f.Fuzz(func(t *testing.T, s string, low, high int) {
		checkNumber(t, low)
		checkNumber(t, high)
		checkText(t, s)
		checkUpto(t, s, low, high)
		checkUpto(t, strconv.Itoa(low), low, high)
	})
}

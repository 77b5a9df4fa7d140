package command

import (
	"math"
	"math/big"
	"strings"
	"testing"

	"tapster/api"
)

// numberPlace is where a number stands in a line, of some bounds, and what is told of it.
type numberPlace struct {
	line        string
	least, most int
	number      func(c *api.Command, n int)
}

func numberPlaces() []numberPlace {
	inN := func(c *api.Command, n int) { c.N = n }
	deep := func(c *api.Command, n int) { c.Wishes[0].Deep = n }
	cost := func(c *api.Command, n int) { c.Wishes[0].Cost = n }
	return []numberPlace{
		{"SET k #", math.MinInt, math.MaxInt, inN},
		{"INCRBY k #", math.MinInt, math.MaxInt, inN},
		{"EXPIRE k #", 0, 1 << 53, inN},
		{"RESERVE # - p:0:1", 0, 1 << 53, inN},
		{"COMMIT #", 1, 1 << 53, inN},
		{"COMMIT # 5", 1, 1 << 53, inN},
		{"COMMIT 5 #", 0, 1 << 20, cost},
		{"CANCEL #", 1, 1 << 53, inN},
		{"TAKE a p:#:1", 0, 8, deep},
		{"PEEK - p:#:1 q:0:1", 0, 8, deep},
		{"RESERVE 1 a/b p:#:1", 0, 8, deep},
		{"TAKE a p:0:#", 1, 1 << 20, cost},
		{"PEEK - p:0:# q:0:1", 1, 1 << 20, cost},
		{"RESERVE 1 a/b p:0:#", 1, 1 << 20, cost},
		{"POLICY p 4 # 1 0 0 0", 1, 1 << 20, func(c *api.Command, n int) { c.Policy.Limit = n }},
		{"POLICY p 4 1 # 0 0 0", 1, 1 << 40, func(c *api.Command, n int) { c.Policy.Period = n }},
		{"POLICY p 1 1 1 # 0 0", 1, 1 << 20, func(c *api.Command, n int) { c.Policy.Burst = n }},
		{"POLICY p 3 1 1 0 # 0", 1, 100, func(c *api.Command, n int) { c.Policy.Cap = n }},
		{"POLICY p 4 1 1 0 0 #", 0, 1, func(c *api.Command, n int) { c.Policy.Open = n == 1 }},
	}
}

// noNumbers are texts of which none is a number's, though many are near to it, or one that is too great for any place.
func noNumbers() []string {
	return []string{"", "-", "+", "--1", "+1", "+0", "-0", "00", "01", "-01", "007", "0x1", "1e1", "1.0", "1.", ".1", "1_0", "1,0", " 1", "1 ", " ", "\t1", "1\n", "1\r\n", "1\x00", "\x001", "1-", "1+1", "a", "1a", "a1", "\u0661", "\uff11", "\u00b2", "\xff", "nil", "NaN", "1/1",
		strings.Repeat("0", 100), strings.Repeat("9", 100), "-" + strings.Repeat("9", 100), "9" + strings.Repeat("0", 100000),
		"18446744073709551615", "18446744073709551616", "18446744073709551617", "340282366920938463463374607431768211457"}
}

// in lays text in the place of a line's number.
func (x numberPlace) in(text string) []string {
	l := args(x.line)
	for i := range l {
		l[i] = strings.ReplaceAll(l[i], "#", text)
	}
	return l
}

// checkNumber holds a number against the bounds of its place; n may be greater than an int.
func checkNumber(t *testing.T, x numberPlace, n *big.Int) {
	t.Helper()
	l := x.in(n.String())
	want, e := Parse(x.in("1")...)
	if e != api.OK {
		t.Fatal(x.line, e)
	}
	if n.IsInt64() {
		x.number(&want, int(n.Int64()))
	}
	if n.Cmp(big.NewInt(int64(x.least))) >= 0 && n.Cmp(big.NewInt(int64(x.most))) <= 0 {
		checkBoth(t, want, l...)
		return
	}
	checkError(t, api.ErrArg, l...)
	if n.IsInt64() && !strings.HasPrefix(x.line, "POLICY p 4 1 1 0 0") {
		checkPrint(t, want)
	}
}

// TestNumbers: each place of a number, at its bounds, about them, and far beyond them.
func TestNumbers(t *testing.T) {
	for _, x := range numberPlaces() {
		for _, from := range []int{x.least, x.most, 0, math.MinInt, math.MaxInt, 1 << 20, 1 << 40, 1 << 53, 100, 8} {
			for near := int64(-12); near <= 12; near++ {
				n := big.NewInt(int64(from))
				checkNumber(t, x, n.Add(n, big.NewInt(near)))
			}
		}
		for bit := range uint(200) {
			n := new(big.Int).Lsh(big.NewInt(1), bit)
			checkNumber(t, x, n)
			checkNumber(t, x, new(big.Int).Neg(n))
			// What would be 1, or the like, of the bits that an int has.
			checkNumber(t, x, n.Add(n, big.NewInt(1)))
			checkNumber(t, x, new(big.Int).Neg(n))
		}
		for _, text := range noNumbers() {
			checkError(t, api.ErrArg, x.in(text)...)
		}
	}
}

// policyLine tells the arguments of POLICY for p.
func policyLine(p api.Policy) []string {
	l := []string{"POLICY", "p"}
	open := 0
	if p.Open {
		open = 1
	}
	for _, n := range []int{p.Kind, p.Limit, p.Period, p.Burst, p.Cap, open} {
		l = append(l, big.NewInt(int64(n)).String())
	}
	return l
}

// mayBe tells whether p may be, as the chapters 4 to 7 say it.
func mayBe(p api.Policy) bool {
	limit := p.Limit >= 1 && p.Limit <= 1<<20 && p.Period >= 1 && p.Period <= 1<<40
	burst := p.Burst >= 1 && p.Burst <= 1<<20 && p.Cap == 0
	switch p.Kind {
	case 1, 2:
		return limit && burst
	case 3:
		return limit && p.Burst == 0 && p.Cap >= 1 && p.Cap <= 100
	case 4:
		return limit && p.Burst == 0 && p.Cap == 0
	default:
		return false
	}
}

// TestPolicies: of each Kind, and of some that are none, each field at its edges, and each two of them.
func TestPolicies(t *testing.T) {
	edges := []int{0, 1, 2, 99, 100, 101, 1<<20 - 1, 1 << 20, 1<<20 + 1, 1<<40 - 1, 1 << 40, 1<<40 + 1, 1 << 53, math.MaxInt, -1, math.MinInt}
	gone := map[bool]int{}
	try := func(p api.Policy) {
		want, l := api.Command{Kind: api.Lay, Name: "p", Policy: p}, policyLine(p)
		gone[mayBe(p)]++
		if mayBe(p) {
			checkBoth(t, want, l...)
		} else {
			checkError(t, api.ErrArg, l...)
			checkPrint(t, want)
		}
	}
	for _, kind := range []int{1, 2, 3, 4, 0, 5, -1, 6, 1<<32 + 1, math.MaxInt, math.MinInt} {
		base := api.Policy{Kind: kind, Limit: 7, Period: 8}
		switch kind {
		case 1, 2:
			base.Burst = 9
		case 3:
			base.Cap = 10
		}
		for _, open := range []bool{false, true} {
			base.Open = open
			try(base)
			fields := func(p *api.Policy) []*int { return []*int{&p.Limit, &p.Period, &p.Burst, &p.Cap} }
			for i := range 4 {
				for j := range i + 1 {
					for _, n := range edges {
						for _, m := range edges {
							p := base
							*fields(&p)[i] = n
							*fields(&p)[j] = m
							try(p)
						}
					}
				}
			}
		}
	}
	if gone[true] < 500 || gone[false] < 5000 {
		t.Fatal("too little happened to tell:", gone)
	}
	// Each field in its own bounds, but not such together.
	for _, line := range []string{"POLICY p 1 1 1 1 1 0", "POLICY p 1 1 1 0 0 0", "POLICY p 2 0 1 1 0 0", "POLICY p 3 1 1 1 1 0", "POLICY p 3 1 1 0 101 0", "POLICY p 4 1 1 1 0 0", "POLICY p 4 1 1 0 1 0", "POLICY p 4 1048577 1 0 0 0", "POLICY p 4 1 0 0 0 0", "POLICY p 0 0 0 0 0 0"} {
		checkError(t, api.ErrArg, args(line)...)
	}
	for _, open := range []string{"2", "-1", "true", "", "00"} {
		checkError(t, api.ErrArg, append(args("POLICY p 4 1 1 0 0"), open)...)
	}
}

package num

import (
	"math/big"
	"testing"

	"tapster/api"
)

const (
	most  = 1<<63 - 1
	least = -1 << 63
)

// edges are the numbers around which an overflow, a sign, a clip or a carry goes wrong.
func edges() []int {
	l := []int{least, least + 1, least + 2, -10, -7, -3, -2, -1, 0, 1, 2, 3, 7, 9, 10, most - 2, most - 1, most}
	for _, s := range []int{20, 31, 32, 33, 40, 52, 53, 54, 61, 62} {
		for d := -1; d <= 1; d++ {
			l = append(l, 1<<s+d, -(1<<s)+d)
		}
	}
	return append(l, most/2, most/3, most/3*2, 3037000499, 3037000500, -3037000500)
}

// scattered are numbers of all lengths and both signs, the same in every run.
func scattered(count int) []int {
	l := make([]int, count)
	x := uint64(88172645463325252)
	for i := range l {
		x ^= x << 13
		x ^= x >> 7
		x ^= x << 17
		l[i] = int(x) >> (i % 64)
	}
	return l
}

// exact is what the document asks for n: n, true, or 0, false, if n is no number of 64 bits.
func exact(n *big.Int) (int, bool) {
	if !n.IsInt64() {
		return 0, false
	}
	return int(n.Int64()), true
}

func number(n int) *big.Int { return big.NewInt(int64(n)) }

func exactQuotient(a, b, c int, roundUp bool) (int, bool) {
	if a < 0 || b < 0 || c <= 0 {
		return 0, false
	}
	product := new(big.Int).Mul(number(a), number(b))
	n, rest := new(big.Int).QuoRem(product, number(c), new(big.Int))
	if roundUp && rest.Sign() > 0 {
		n.Add(n, big.NewInt(1))
	}
	return exact(n)
}

func checkTwo(t *testing.T, a, b int) {
	t.Helper()
	for _, x := range []struct {
		name string
		call func(int, int) (int, bool)
		work func(z, x, y *big.Int) *big.Int
	}{{"Add", Add, (*big.Int).Add}, {"Sub", Sub, (*big.Int).Sub}, {"Mul", Mul, (*big.Int).Mul}} {
		want, fits := exact(x.work(new(big.Int), number(a), number(b)))
		if got, ok := x.call(a, b); got != want || ok != fits {
			t.Fatalf("%s(%d, %d): %d, %t, not %d, %t", x.name, a, b, got, ok, want, fits)
		}
	}
}

func checkThree(t *testing.T, a, b, c int) {
	t.Helper()
	want, fits := exactQuotient(a, b, c, false)
	if got, ok := Part(a, b, c); got != want || ok != fits {
		t.Fatalf("Part(%d, %d, %d): %d, %t, not %d, %t", a, b, c, got, ok, want, fits)
	}
	want, fits = exactQuotient(a, b, c, true)
	if got, ok := Whole(a, b, c); got != want || ok != fits {
		t.Fatalf("Whole(%d, %d, %d): %d, %t, not %d, %t", a, b, c, got, ok, want, fits)
	}
}

func checkTimes(t *testing.T, a, b int) {
	t.Helper()
	clip := func(n *big.Int) int {
		if n.Sign() < 0 {
			return 0
		}
		if n.Cmp(number(api.MaxTime)) > 0 {
			return api.MaxTime
		}
		return int(n.Int64())
	}
	from := clip(number(a))
	if got := Clamp(a); got != from {
		t.Fatalf("Clamp(%d): %d, not %d", a, got, from)
	}
	want := clip(new(big.Int).Add(number(from), number(max(b, 0))))
	if got := Later(a, b); got != want {
		t.Fatalf("Later(%d, %d): %d, not %d", a, b, got, want)
	}
}

func TestAddSubMul(t *testing.T) {
	for _, x := range []struct {
		name string
		call func(int, int) (int, bool)
		a, b int
		want int
		ok   bool
	}{
		{"Add", Add, 2, 3, 5, true},
		{"Add", Add, 2, -5, -3, true},
		{"Add", Add, most, 0, most, true},
		{"Add", Add, least, 0, least, true},
		{"Add", Add, most - 1, 1, most, true},
		{"Add", Add, least + 1, -1, least, true},
		{"Add", Add, most, least, -1, true},
		{"Add", Add, most, 1, 0, false},
		{"Add", Add, 1, most, 0, false},
		{"Add", Add, most, most, 0, false},
		{"Add", Add, least, -1, 0, false},
		{"Add", Add, least, least, 0, false},
		{"Sub", Sub, 2, 5, -3, true},
		{"Sub", Sub, least, 0, least, true},
		{"Sub", Sub, least, least, 0, true},
		{"Sub", Sub, most, most, 0, true},
		{"Sub", Sub, -1, least, most, true},
		{"Sub", Sub, -1, most, least, true},
		{"Sub", Sub, 0, most, -most, true},
		{"Sub", Sub, 0, least, 0, false},
		{"Sub", Sub, -2, most, 0, false},
		{"Sub", Sub, least, 1, 0, false},
		{"Sub", Sub, most, -1, 0, false},
		{"Mul", Mul, 6, 7, 42, true},
		{"Mul", Mul, -6, 7, -42, true},
		{"Mul", Mul, 6, -7, -42, true},
		{"Mul", Mul, -6, -7, 42, true},
		{"Mul", Mul, 0, least, 0, true},
		{"Mul", Mul, most, 0, 0, true},
		{"Mul", Mul, 1, least, least, true},
		{"Mul", Mul, most, -1, -most, true},
		{"Mul", Mul, 1 << 32, 1 << 31, 0, false},
		{"Mul", Mul, 1 << 32, -1 << 31, least, true},
		{"Mul", Mul, -1 << 32, -1 << 31, 0, false},
		{"Mul", Mul, -1, least, 0, false},
		{"Mul", Mul, least, least, 0, false},
		{"Mul", Mul, most, most, 0, false},
		{"Mul", Mul, 1 << 32, 1 << 32, 0, false},
		{"Mul", Mul, 1 << 32, -1 << 32, 0, false},
	} {
		if got, ok := x.call(x.a, x.b); got != x.want || ok != x.ok {
			t.Errorf("%s(%d, %d): %d, %t, not %d, %t", x.name, x.a, x.b, got, ok, x.want, x.ok)
		}
	}
}

func TestPartWhole(t *testing.T) {
	for _, x := range []struct {
		name        string
		a, b, c     int
		part, whole int
		partOK      bool
		wholeOK     bool
	}{
		{"rounded", 7, 3, 2, 10, 11, true, true},
		{"even", 8, 3, 2, 12, 12, true, true},
		{"below one", 1, 1, most, 0, 1, true, true},
		{"c as great as a", most, most - 1, most, most - 1, most - 1, true, true},
		{"nothing of a", 0, most, 3, 0, 0, true, true},
		{"nothing of b", most, 0, 3, 0, 0, true, true},
		{"the greatest", most, 1, 1, most, most, true, true},
		{"a product of two words", most, most, most, most, most, true, true},
		{"the greatest, only down", 1<<32 - 1, 1<<32 + 1, 2, most, 0, true, false},
		{"one too great", 1 << 32, 1 << 31, 1, 0, 0, false, false},
		{"one word too great", most, 3, 2, 0, 0, false, false},
		{"all of a word", 1<<32 - 1, 1<<32 + 1, 1, 0, 0, false, false},
		{"more than a word", most, most, 1, 0, 0, false, false},
		{"as high as c", 1 << 32, 1 << 33, 2, 0, 0, false, false},
		{"a below 0", -1, 1, 1, 0, 0, false, false},
		{"b below 0", 1, -1, 1, 0, 0, false, false},
		{"both below 0", -2, -3, 1, 0, 0, false, false},
		{"both least", least, least, most, 0, 0, false, false},
		{"a below 0, b 0", -1, 0, 1, 0, 0, false, false},
		{"c 0", 1, 1, 0, 0, 0, false, false},
		{"c 0 of nothing", 0, 0, 0, 0, 0, false, false},
		{"c below 0", 1, 1, -1, 0, 0, false, false},
		{"c least", 0, 0, least, 0, 0, false, false},
	} {
		if got, ok := Part(x.a, x.b, x.c); got != x.part || ok != x.partOK {
			t.Errorf("%s: Part(%d, %d, %d): %d, %t", x.name, x.a, x.b, x.c, got, ok)
		}
		if got, ok := Whole(x.a, x.b, x.c); got != x.whole || ok != x.wholeOK {
			t.Errorf("%s: Whole(%d, %d, %d): %d, %t", x.name, x.a, x.b, x.c, got, ok)
		}
	}
}

func TestClamp(t *testing.T) {
	for _, x := range [][2]int{{least, 0}, {-1, 0}, {0, 0}, {1, 1}, {7, 7}, {api.MaxTime - 1, api.MaxTime - 1}, {api.MaxTime, api.MaxTime}, {api.MaxTime + 1, api.MaxTime}, {most, api.MaxTime}} {
		if got := Clamp(x[0]); got != x[1] {
			t.Errorf("Clamp(%d): %d, not %d", x[0], got, x[1])
		}
	}
}

func TestLater(t *testing.T) {
	for _, x := range [][3]int{
		{5, 6, 11},
		{0, 0, 0},
		{5, 0, 5},
		{5, -6, 5},
		{5, least, 5},
		{-5, 6, 6},
		{least, 6, 6},
		{least, least, 0},
		{0, api.MaxTime, api.MaxTime},
		{api.MaxTime, 0, api.MaxTime},
		{api.MaxTime, -1, api.MaxTime},
		{api.MaxTime + 5, -1, api.MaxTime},
		{api.MaxTime - 1, 1, api.MaxTime},
		{api.MaxTime - 2, 1, api.MaxTime - 1},
		{api.MaxTime - 1, 2, api.MaxTime},
		{-1, most, api.MaxTime},
		{1, most, api.MaxTime},
		{most, most, api.MaxTime},
		{most, least, api.MaxTime},
	} {
		if got := Later(x[0], x[1]); got != x[2] {
			t.Errorf("Later(%d, %d): %d, not %d", x[0], x[1], got, x[2])
		}
	}
}

// TestAnyInput is P1: each call ends without a panic and tells what is right, whatever it is given.
func TestAnyInput(t *testing.T) {
	l := edges()
	for _, a := range l {
		for _, b := range l {
			checkTwo(t, a, b)
			checkTimes(t, a, b)
			for _, c := range l {
				checkThree(t, a, b, c)
			}
		}
	}
	l = scattered(30000)
	for i := 2; i < len(l); i++ {
		checkTwo(t, l[i-1], l[i])
		checkTimes(t, l[i-1], l[i])
		checkThree(t, l[i-2], l[i-1], l[i])
		checkThree(t, l[i-2]&most, l[i-1]&most, l[i]&most)
	}
}

// FuzzNum looks for inputs that the edges miss: go test -fuzz=FuzzNum ./num.
func FuzzNum(f *testing.F) {
	f.Add(7, 3, 2)
	f.Add(least, most, -1)
	f.Fuzz(func(t *testing.T, a, b, c int) {
		checkTwo(t, a, b)
		checkTimes(t, a, b)
		checkThree(t, a, b, c)
	})
}

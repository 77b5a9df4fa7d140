package machine

import (
	"slices"
	"strings"
	"testing"

	"tapster/api"
)

// said of each line, done one behind the other.
func saidOf(t testing.TB, m *Machine, now int, l []string) []string {
	t.Helper()
	var all []string
	for _, line := range l {
		all = append(all, said(t, m.Do(now, args(line)...)))
	}
	return all
}

// TestCopy: what is done to a copy, or to what it was copied from, the other one knows nothing of.
func TestCopy(t *testing.T) {
	for _, now := range []int{8, 55, 100} {
		for _, line := range lines() {
			m, untouched := begun(t), begun(t)
			other := m.Copy()
			checkSame(t, "copied", m, other)
			want := said(t, other.Do(now, args(line)...))
			checkSame(t, "copied from, behind "+line, m, untouched)
			if now > 8 {
				checkOther(t, "copy, behind "+line, other, m)
			}
			// The other way.
			third := m.Copy()
			checkDo(t, m, now, line, want)
			checkSame(t, "both, behind "+line, m, other)
			checkSame(t, "copy, behind "+line, third, untouched)
		}
	}
}

// TestCopyLater: many commands later, both are what they would be without the other one.
func TestCopyLater(t *testing.T) {
	m, alone := begun(t), begun(t)
	first := m.Copy()
	second := first.Copy().Copy()
	l := lines()
	back := slices.Clone(l)
	slices.Reverse(back)
	want, wantBack := saidOf(t, begun(t), 20, l), saidOf(t, begun(t), 20, back)
	for i := range l {
		checkDo(t, m, 20, l[i], want[i])
		checkDo(t, second, 20, back[i], wantBack[i])
		checkSame(t, l[i], first, alone)
	}
	if got := saidOf(t, first, 20, l); !slices.Equal(got, want) {
		t.Fatalf("%q, not %q", got, want)
	}
	checkSame(t, "at the end", first, m)
	checkOther(t, "at the end", second, m)
}

// TestCopyOfEach: a copy has each thing that there is.
func TestCopyOfEach(t *testing.T) {
	m := begun(t).Copy().Copy()
	if m.Now() != 8 || len(m.Held()) != 3 {
		t.Fatal(m.Now(), m.Held())
	}
	for _, x := range []step{
		{0, "STATS", "clock 8, policies 5, cells 7, held 3, numbers 2, granted 5, denied 1, unavailable 0"},
		{0, "GET n", ":5"}, {0, "TTL m", ":30"}, {0, "POLICY o 4 4 1000 0 0 1", ":6"}, {0, "POLICY new 4 4 1000 0 0 1", ":7"},
		{0, "RESERVE 5 q b:1:1", ":5"}, {0, "COMMIT 2", "-ERR 4"}, {0, "COMMIT 3", "+OK"}, {0, "TAKE x b:1:3", "-DENIED 14"},
		// The room of before.
		{0, "SET o 1", "+OK"},
	} {
		checkTrial(t, m, x.now, x.line, x.want)
	}
	checkSteps(t, m, step{8, "SET o 1", "+OK"}, step{8, "SET p 1", "+OK"}, step{8, "SET q 1", "+OK"}, step{8, "SET r 1", "-ERR 5"})
}

// TestTwo: two Machines side by side know nothing of one another.
func TestTwo(t *testing.T) {
	l := lines()
	back := slices.Clone(l)
	slices.Reverse(back)
	want, wantBack := saidOf(t, begun(t), 9, l), saidOf(t, begun(t), 1000, back)
	a, b := begun(t), begun(t)
	for i := range l {
		checkDo(t, a, 9, l[i], want[i])
		checkDo(t, b, 1000, back[i], wantBack[i])
	}
	if a.Now() != 9 || b.Now() != 1000 {
		t.Fatal(a.Now(), b.Now())
	}
}

// TestAgain: the same commands at the same times tell the same.
func TestAgain(t *testing.T) {
	l := slices.Concat(lines(), lines())
	a, b := begun(t), begun(t)
	for i, line := range l {
		now := 3 * i
		checkDo(t, a, now, line, said(t, b.Do(now, args(line)...)))
		if x, y := a.Touches(args(line)...), b.Touches(args(line)...); !slices.Equal(x, y) {
			t.Fatal(line, x, y)
		}
	}
	checkSame(t, "again", a, b)
}

// whole is l with the room behind it.
func whole[T any](l []T) []T {
	return l[:cap(l)]
}

// fill puts x in all places of l, and behind it.
func fill[T any](l []T, x T) {
	for i := range whole(l) {
		whole(l)[i] = x
	}
}

// TestSpoilt: what came out is the caller's, whatever becomes of it.
func TestSpoilt(t *testing.T) {
	spoil := func(m *Machine) {
		for range 2 {
			for _, x := range m.Held() {
				fill(x.Limits, api.Limit{Key: "spoilt", Cost: -1})
			}
			fill(m.Held(), api.Due{ID: -1, Till: -1, Limits: []api.Limit{{}}})
			for _, line := range []string{"TAKE x/y b:1:1 c:0:1 l:2:1 g:1:1", "COMMIT 1", "CANCEL 3"} {
				fill(m.Touches(args(line)...), -1)
			}
		}
	}
	for _, line := range lines() {
		m, pure := begun(t), begun(t)
		spoil(m)
		checkSame(t, "spoilt", m, pure)
		r := m.Do(9, args(line)...)
		fill(r.L, "spoilt")
		spoil(m)
		pure.Do(9, args(line)...)
		checkSame(t, "spoilt behind "+line, m, pure)
		for _, next := range lines() {
			checkTrial(t, m, 9, next, said(t, pure.Copy().Do(9, args(next)...)))
		}
	}
}

// TestNothingShared: no two lists that come out share memory.
func TestNothingShared(t *testing.T) {
	m := begun(t)
	a, b := m.Held(), m.Held()
	for i := range a {
		for j := range whole(a[i].Limits) {
			whole(a[i].Limits)[j].Cost = 1000*i + j
		}
	}
	for i, x := range a {
		for j, y := range whole(x.Limits) {
			if y.Cost != 1000*i+j {
				t.Fatal("two dues share", x)
			}
		}
	}
	checkHeld(t, m, b...)
	first, second := m.Do(8, "STATS"), m.Do(8, "STATS")
	want := slices.Clone(second.L)
	fill(first.L, "spoilt")
	if !slices.Equal(second.L, want) {
		t.Fatal("two replies share")
	}
	x, y := m.Touches("TAKE", "x/y", "b:1:1", "g:2:1", "c:0:1"), m.Touches("TAKE", "x/y", "b:1:1", "g:2:1", "c:0:1")
	shards := slices.Clone(y)
	fill(x, -1)
	if !slices.Equal(y, shards) {
		t.Fatal("two lists of shards share")
	}
}

// TestHandedIn: arguments are neither changed nor kept, nor is the room behind them.
func TestHandedIn(t *testing.T) {
	for _, line := range append(lines(), "take X/Y b:1:1", "ping", "policy q 1 5 100 5 0 0") {
		m, pure := begun(t), begun(t)
		room := append(args(line), "behind", "it")
		given := room[:len(room)-2]
		before := slices.Clone(room)
		m.Touches(given...)
		r := said(t, m.Do(9, given...))
		if !slices.Equal(room, before) {
			t.Fatalf("%q was changed: %q", line, room)
		}
		fill(room, "spoilt")
		checkDo(t, pure, 9, line, r)
		checkSame(t, line, m, pure)
		for _, next := range lines() {
			checkTrial(t, m, 9, next, said(t, pure.Copy().Do(9, args(next)...)))
		}
	}
}

// TestNil: of a nil Machine, and of one that New did not make, nothing is told, and each command fails, whatever is asked, also what is wrong.
func TestNil(t *testing.T) {
	var none *Machine
	for _, m := range []*Machine{none, {}, new(Machine)} {
		for _, now := range edges() {
			for _, line := range append(lines(), "", "FOO", "TAKE", "POLICY p 9 9 9 9 9 9", strings.Repeat("x ", 1000)) {
				checkDo(t, m, now, line, "-ERR 1")
				if l := m.Touches(args(line)...); len(l) != 0 {
					t.Fatal(line, l)
				}
			}
			if got := said(t, m.Do(now)); got != "-ERR 1" {
				t.Fatal(got)
			}
		}
		if m.Now() != 0 || m.Held() != nil || m.Copy() != nil || len(m.Touches()) != 0 {
			t.Fatal("of nothing something")
		}
	}
}

// TestByValue: a Machine that was copied by value is that same one.
func TestByValue(t *testing.T) {
	m := begun(t)
	other := *m
	for _, line := range lines() {
		a, pure := begun(t), begun(t)
		b := *a
		want := said(t, pure.Do(20, args(line)...))
		checkDo(t, &b, 20, line, want)
		checkSame(t, line, a, pure)
		if a.Now() != 20 {
			t.Fatal(line, a.Now())
		}
	}
	checkDo(t, &other, 9, "CANCEL 1", "+OK")
	checkDo(t, m, 9, "CANCEL 1", "-ERR 4")
	checkSame(t, "by value", m, &other)
}

package limiter

import (
	"tapster/api"
	"tapster/bucket"
	"tapster/counter"
	"tapster/gcra"
	"tapster/window"
)

// kernel is one of the four algorithms.
type kernel interface {
	Check(p api.Policy) api.Errno
	New(p api.Policy, now int) api.State
	Right(p api.Policy, s api.State) bool
	Advance(p api.Policy, s api.State, now int) api.State
	Room(p api.Policy, s api.State, now int) int
	Do(p api.Policy, s api.State, a api.Act) (api.State, bool)
	Until(p api.Policy, s api.State, now int) int
	Retry(p api.Policy, s api.State, now int, cost int) (int, bool)
	Most(p api.Policy) int
}

// algorithm makes a kernel of functions. What policies P, states S and acts A are is left open, so that its methods can hand them on alone, and not look into them.
type algorithm[P, S, A any] struct {
	check   func(p P) api.Errno
	begin   func(p P, now int) S
	right   func(p P, s S) bool
	advance func(p P, s S, now int) S
	room    func(p P, s S, now int) int
	do      func(p P, s S, a A) (S, bool)
	until   func(p P, s S, now int) int
	retry   func(p P, s S, now int, cost int) (int, bool)
	// most is asked of a policy that may be alone.
	most func(p P) int
}

func (a algorithm[P, S, A]) Check(p P) api.Errno { return a.check(p) }

func (a algorithm[P, S, A]) New(p P, now int) S { return a.begin(p, now) }

func (a algorithm[P, S, A]) Right(p P, s S) bool { return a.right(p, s) }

func (a algorithm[P, S, A]) Advance(p P, s S, now int) S { return a.advance(p, s, now) }

func (a algorithm[P, S, A]) Room(p P, s S, now int) int { return a.room(p, s, now) }

func (a algorithm[P, S, A]) Do(p P, s S, act A) (S, bool) { return a.do(p, s, act) }

func (a algorithm[P, S, A]) Until(p P, s S, now int) int { return a.until(p, s, now) }

func (a algorithm[P, S, A]) Retry(p P, s S, now int, cost int) (int, bool) {
	return a.retry(p, s, now, cost)
}

func (a algorithm[P, S, A]) Most(p P) int {
	if a.check(p) != api.OK {
		return 0
	}
	return a.most(p)
}

// kernelOf is the algorithm that the Kind of p names. Of a Kind that is none it might be any: each refuses all Kinds but its own.
func kernelOf(p api.Policy) kernel {
	switch p.Kind {
	case api.Gcra:
		return gcraKernel()
	case api.Log:
		return windowKernel()
	case api.Count:
		return counterKernel()
	default:
		return bucketKernel()
	}
}

func bucketKernel() kernel {
	return algorithm[api.Policy, api.State, api.Act]{
		check:   bucket.Check,
		begin:   bucket.New,
		right:   bucket.Right,
		advance: bucket.Advance,
		room:    bucket.Room,
		do:      bucket.Do,
		until:   bucket.Until,
		retry:   bucket.Retry,
		most:    burst,
	}
}

func gcraKernel() kernel {
	return algorithm[api.Policy, api.State, api.Act]{
		check:   gcra.Check,
		begin:   gcra.New,
		right:   gcra.Right,
		advance: gcra.Advance,
		room:    gcra.Room,
		do:      gcra.Do,
		until:   gcra.Until,
		retry:   gcra.Retry,
		most:    burst,
	}
}

func windowKernel() kernel {
	return algorithm[api.Policy, api.State, api.Act]{
		check:   window.Check,
		begin:   window.New,
		right:   window.Right,
		advance: window.Advance,
		room:    window.Room,
		do:      window.Do,
		until:   window.Until,
		retry:   window.Retry,
		most:    limit,
	}
}

func counterKernel() kernel {
	return algorithm[api.Policy, api.State, api.Act]{
		check:   counter.Check,
		begin:   counter.New,
		right:   counter.Right,
		advance: counter.Advance,
		room:    counter.Room,
		do:      counter.Do,
		until:   counter.Until,
		retry:   counter.Retry,
		most:    limit,
	}
}

func burst(p api.Policy) int { return p.Burst }

func limit(p api.Policy) int { return p.Limit }

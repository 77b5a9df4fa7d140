package machine

import (
	"tapster/api"
	"tapster/book"
	"tapster/digits"
	"tapster/scope"
	"tapster/store"
	"tapster/vars"
)

const (
	noMost = -1 // the most that is committed, where a command names none
	noKey  = -2 // how long a key lasts that is not there
)

// engine is what a Machine keeps: its CLOCK, the layers below, and how many Verdicts of each Kind were COUNTED, from Granted on.
type engine struct {
	clock  int
	store  *store.Store
	vars   *vars.Vars
	book   *book.Book
	counts [api.NoRoom]int
}

// deed is what a Kind of commands does, and of which limits it wants costs, or ends what is held; of none, if there is no function for that.
type deed struct {
	do     func(c api.Command) api.Reply
	limits func(c api.Command) []api.Limit
}

func newEngine(shards, room, numbers int) *engine {
	return &engine{store: store.New(shards, room), vars: vars.New(numbers), book: book.New()}
}

// copied is an engine that is the same, in new memory.
func (e *engine) copied() *engine {
	return &engine{e.clock, e.store.Copy(), e.vars.Copy(), e.book.Copy(), e.counts}
}

// deeds tells what each Kind does.
func (e *engine) deeds() map[int]deed {
	return map[int]deed{
		api.Ping:       {do: e.ping},
		api.Lay:        {do: e.lay},
		api.Drop:       {do: e.drop},
		api.TakeAll:    {do: e.take, limits: e.wished},
		api.PeekAll:    {do: e.peek, limits: e.wished},
		api.ReserveAll: {do: e.reserve, limits: e.wished},
		api.CommitOne:  {do: e.commit, limits: e.held},
		api.CancelOne:  {do: e.cancel, limits: e.held},
		api.Set:        {do: e.set},
		api.Get:        {do: e.get},
		api.Add:        {do: e.add},
		api.Delete:     {do: e.remove},
		api.Expire:     {do: e.expire},
		api.Left:       {do: e.left},
		api.Stats:      {do: e.stats},
	}
}

// wished tells the limits that the Wishes come to; none, if these may not be.
func (e *engine) wished(c api.Command) []api.Limit {
	l, _ := scope.Expand(e.book, c.Path, c.Wishes...)
	return l
}

// held tells the limits of what is held by that ID; none, if nothing is.
func (e *engine) held(c api.Command) []api.Limit {
	for _, x := range e.store.Held() {
		if x.ID == c.N {
			return x.Limits
		}
	}
	return nil
}

func (e *engine) ping(api.Command) api.Reply {
	return simple("PONG")
}

func (e *engine) lay(c api.Command) api.Reply {
	return numberOr(e.book.Lay(c.Name, c.Policy))
}

func (e *engine) drop(c api.Command) api.Reply {
	return truth(e.book.Drop(c.Name))
}

func (e *engine) take(c api.Command) api.Reply {
	return e.ask(c, func(l []api.Limit) api.Reply {
		return told(e.count(e.store.Take(e.clock, l...)), done())
	})
}

func (e *engine) peek(c api.Command) api.Reply {
	return e.ask(c, func(l []api.Limit) api.Reply {
		return told(e.store.Peek(e.clock, l...), done())
	})
}

func (e *engine) reserve(c api.Command) api.Reply {
	return e.ask(c, func(l []api.Limit) api.Reply {
		v := e.count(e.store.Reserve(e.clock, c.N, l...))
		return told(v, number(v.ID))
	})
}

// ask tells what is replied to the limits that the Wishes come to; why not, if these may not be.
func (e *engine) ask(c api.Command, reply func(l []api.Limit) api.Reply) api.Reply {
	l, errno := scope.Expand(e.book, c.Path, c.Wishes...)
	if errno != api.OK {
		return failed(errno)
	}
	return reply(l)
}

// count COUNTS a Verdict, and hands it on.
func (e *engine) count(v api.Verdict) api.Verdict {
	e.counts[v.Kind-api.Granted]++
	return v
}

func (e *engine) commit(c api.Command) api.Reply {
	most := noMost
	if len(c.Wishes) > 0 {
		most = c.Wishes[0].Cost
	}
	return doneOr(e.store.Commit(e.clock, c.N, most))
}

func (e *engine) cancel(c api.Command) api.Reply {
	return doneOr(e.store.Cancel(e.clock, c.N))
}

func (e *engine) set(c api.Command) api.Reply {
	return doneOr(e.vars.Set(c.Name, c.N, e.clock))
}

func (e *engine) get(c api.Command) api.Reply {
	n, there := e.vars.Get(c.Name, e.clock)
	if !there {
		return api.Reply{Kind: api.Null}
	}
	return number(n)
}

func (e *engine) add(c api.Command) api.Reply {
	return numberOr(e.vars.Add(c.Name, c.N, e.clock))
}

func (e *engine) remove(c api.Command) api.Reply {
	return truth(e.vars.Delete(c.Name, e.clock))
}

func (e *engine) expire(c api.Command) api.Reply {
	return truth(e.vars.Expire(c.Name, c.N, e.clock))
}

func (e *engine) left(c api.Command) api.Reply {
	left, there := e.vars.Left(c.Name, e.clock)
	if !there {
		return number(noKey)
	}
	return number(left)
}

// stats tells how much there is of each; what is due comes back first, so that none of it is told as held.
func (e *engine) stats(api.Command) api.Reply {
	e.store.Expire(e.clock)
	var lines []string
	lay := func(word string, n int) {
		lines = append(lines, word+" "+digits.Print(n))
	}
	lay("clock", e.clock)
	lay("policies", len(e.book.Names()))
	lay("cells", e.store.Len())
	lay("held", len(e.store.Held()))
	lay("numbers", e.vars.Len(e.clock))
	for i, word := range []string{"granted", "denied", "unavailable"} {
		lay(word, e.counts[i])
	}
	return api.Reply{Kind: api.List, L: lines}
}

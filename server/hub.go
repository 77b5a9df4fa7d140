package server

import (
	"tapster/api"
	"tapster/hash"
	"tapster/machine"
)

// nobody stands where no connection does.
const nobody = -1

// hub is what a Server keeps: the machine, how many shards it has, the READING, all connections there ever were, and all EVENTS.
type hub struct {
	machine     *machine.Machine
	shards      int
	reading     int
	connections []*connection
	events      []api.Event
}

// deed is what a Kind does, and tells whether it might; and whether that is done to a connection, which has to be LIVE.
type deed struct {
	do  func(h *hub, d api.Do) bool
	one bool
}

func newHub(shards, room, numbers int) *hub {
	// There is a row for each shard, however many were asked for.
	rows := hash.Spread(nil, shards)
	return &hub{machine: machine.New(shards, room, numbers), shards: len(rows)}
}

// deeds tells what each Kind does.
func deeds() map[int]deed {
	return map[int]deed{
		api.DoOpen:  {do: (*hub).open},
		api.DoBytes: {do: (*hub).feed, one: true},
		api.DoPick:  {do: (*hub).pick, one: true},
		api.DoTick:  {do: (*hub).tick},
		api.DoClose: {do: (*hub).shut, one: true},
	}
}

// act does what d says; false, if that may not be, and then nothing is changed.
func (h *hub) act(d api.Do) bool {
	x, known := deeds()[d.Kind]
	if !known || x.one && !h.at(d.Conn).live {
		return false
	}
	return x.do(h, d)
}

// at tells a connection; one in which there is nothing, if there is none of that number.
func (h *hub) at(conn int) *connection {
	if conn < 0 || conn >= len(h.connections) {
		return &connection{}
	}
	return h.connections[conn]
}

func (h *hub) open(api.Do) bool {
	if len(h.connections) >= api.MaxConns {
		return false
	}
	h.connections = append(h.connections, newConnection())
	return true
}

func (h *hub) tick(d api.Do) bool {
	h.reading = d.N
	return true
}

func (h *hub) feed(d api.Do) bool {
	return h.at(d.Conn).take(d.Data)
}

func (h *hub) shut(d api.Do) bool {
	h.at(d.Conn).leave()
	return true
}

// pick lets a connection go on by one step; false, if it is not RUNNABLE.
func (h *hub) pick(d api.Do) bool {
	x := h.at(d.Conn)
	t, may := h.next(x)
	if !may {
		return false
	}
	// Whatever others do from now on, the task stays what it is.
	x.task = t
	if !t.ready() {
		t.locked++
		return true
	}
	h.do(d.Conn)
	return true
}

// do does the first command of a connection's queue.
func (h *hub) do(conn int) {
	x := h.at(conn)
	args := x.queue[0]
	r := h.machine.Do(h.reading, args...)
	h.events = append(h.events, api.Event{Conn: conn, Now: h.machine.Now(), Args: args, Reply: r})
	x.answer(r)
}

// next tells the task of x, as it is or would be by now, and whether x is RUNNABLE; no task, if no command waits, as none does by one that is not LIVE.
func (h *hub) next(x *connection) (*task, bool) {
	if len(x.queue) == 0 {
		return nil, false
	}
	t := x.task
	if t == nil {
		t = &task{shards: h.machine.Touches(x.queue[0]...)}
	}
	return t, t.ready() || h.locks()[t.shards[t.locked]] == nobody
}

// least tells the least connection that is RUNNABLE; nobody, if none is.
func (h *hub) least() int {
	for conn, x := range h.connections {
		if _, may := h.next(x); may {
			return conn
		}
	}
	return nobody
}

// locks tells of each shard the connection that LOCKED it.
func (h *hub) locks() []int {
	l := make([]int, h.shards)
	for shard := range l {
		l[shard] = nobody
	}
	for conn, x := range h.connections {
		if x.task == nil {
			continue
		}
		for _, shard := range x.task.shards[:x.task.locked] {
			l[shard] = conn
		}
	}
	return l
}

package server

import (
	"tapster/api"
	"tapster/command"
	"tapster/reply"
	"tapster/resp"
)

// connection reads commands of the bytes that come by it, and keeps those that were not done yet, and what was ANSWERED.
type connection struct {
	*resp.Reader
	queue    [][]string
	answered []byte
	live     bool
	// That of the first of its queue; nil, as long as it was not picked for it.
	task *task
}

// task is the shards that a command touches, rising, and how many of these, from the first on, are LOCKED.
type task struct {
	shards []int
	locked int
}

func newConnection() *connection {
	return &connection{Reader: resp.New(), live: true}
}

// take feeds the reader, and lays what comes of it behind the queue; false, if nothing may come any more.
func (x *connection) take(data []byte) bool {
	if x.Wrong() {
		return false
	}
	// That it is wrong by now is asked of the reader itself: as long as commands wait, it has to be asked again.
	told, _ := x.Feed(data)
	x.queue = append(x.queue, told...)
	x.end()
	return true
}

// answer answers the first of the queue, which waits no more.
func (x *connection) answer(r api.Reply) {
	x.say(r)
	x.queue = x.queue[1:]
	x.task = nil
	x.end()
}

// end tells that what came is WRONG, if it is, and all ahead of that was answered; nothing else comes then.
func (x *connection) end() {
	if x.Wrong() && len(x.queue) == 0 {
		x.say(api.Reply{Kind: api.Error, Text: command.Errs(api.ErrProto)})
		x.leave()
	}
}

func (x *connection) say(r api.Reply) {
	x.answered = append(x.answered, reply.Encode(r)...)
}

// leave keeps what was ANSWERED, and nothing else: with its task gone, nothing is LOCKED by it.
func (x *connection) leave() {
	*x = connection{answered: x.answered}
}

// ready tells whether all its shards are LOCKED.
func (t *task) ready() bool {
	return t.locked == len(t.shards)
}

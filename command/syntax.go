package command

import (
	"math"

	"tapster/api"
)

// many is how many arguments there may be where reading them counts them, by an error of its own.
const many = math.MaxInt

// syntax is what stands behind a command's name: how many arguments, and how they are read and laid.
type syntax struct {
	kind        int
	least, most int
	read        func(r *reader)
	lay         func(w *writer)
}

// piece is some of the arguments: how they are read into a Command, and how they are laid of it.
type piece struct {
	read func(r *reader)
	lay  func(w *writer)
}

// syntaxes tells what stands behind each name.
func syntaxes() map[string]syntax {
	name := piece{(*reader).name, (*writer).name}
	key := piece{(*reader).key, (*writer).name}
	policy := piece{(*reader).policy, (*writer).policy}
	path := piece{(*reader).path, (*writer).path}
	wishes := piece{(*reader).wishes, (*writer).wishes}
	most := piece{(*reader).most, (*writer).most}
	span, id := number(0, api.MaxTime), number(1, api.MaxTime)
	integer := number(math.MinInt, math.MaxInt)
	return map[string]syntax{
		"PING":    inTurn(api.Ping, 0, 0),
		"POLICY":  inTurn(api.Lay, 7, 7, name, policy),
		"DROP":    inTurn(api.Drop, 1, 1, name),
		"TAKE":    inTurn(api.TakeAll, 2, many, path, wishes),
		"PEEK":    inTurn(api.PeekAll, 2, many, path, wishes),
		"RESERVE": inTurn(api.ReserveAll, 3, many, span, path, wishes),
		"COMMIT":  inTurn(api.CommitOne, 1, 2, id, most),
		"CANCEL":  inTurn(api.CancelOne, 1, 1, id),
		"SET":     inTurn(api.Set, 2, 2, key, integer),
		"GET":     inTurn(api.Get, 1, 1, key),
		"INCRBY":  inTurn(api.Add, 2, 2, key, integer),
		"DEL":     inTurn(api.Delete, 1, 1, key),
		"EXPIRE":  inTurn(api.Expire, 2, 2, key, span),
		"TTL":     inTurn(api.Left, 1, 1, key),
		"STATS":   inTurn(api.Stats, 0, 0),
	}
}

// number tells the piece that is N, a number of least to most.
func number(least, most int) piece {
	return piece{
		read: func(r *reader) { r.told.N = r.number(least, most) },
		lay:  (*writer).number,
	}
}

// inTurn tells the syntax of pieces that stand one behind the other.
func inTurn(kind, least, most int, pieces ...piece) syntax {
	return syntax{
		kind:  kind,
		least: least,
		most:  most,
		read: func(r *reader) {
			for _, x := range pieces {
				x.read(r)
			}
		},
		lay: func(w *writer) {
			for _, x := range pieces {
				x.lay(w)
			}
		},
	}
}

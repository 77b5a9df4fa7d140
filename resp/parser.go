package resp

import (
	"iter"

	"tapster/api"
	"tapster/digits"
)

// step takes a byte, and tells what takes the one behind it; nil, if no command has such a byte there.
type step func(p *parser, c byte) step

// parser is what is known of a command that isn't whole yet.
type parser struct {
	// What takes the next byte; nil, if what was taken is wrong.
	next step
	// How many bytes were taken.
	taken int
	// The bytes of the number, or of the argument, that is being read.
	text []byte
	// The number that was read last.
	number int
	// How many arguments there are going to be; 0, as long as that isn't known.
	count int
	// Those that are whole.
	args []string
}

// fresh is a parser that took nothing.
func fresh() *parser {
	return &parser{next: star}
}

// wrong tells whether no command begins with what was taken.
func (p *parser) wrong() bool {
	return p.next == nil
}

// feed takes b to its end, or to where it is wrong, and tells the commands that are whole by that, and where in b the last one ends.
func (p *parser) feed(b []byte) ([][]string, int, api.Errno) {
	var told [][]string
	last := 0
	for at, args := range p.commands(b) {
		told, last = append(told, args), at
	}
	if p.wrong() {
		return told, last, api.ErrProto
	}
	return told, last, api.OK
}

// commands goes over the commands that are whole by b, each with where in b it ends.
func (p *parser) commands(b []byte) iter.Seq2[int, []string] {
	return func(yield func(at int, args []string) bool) {
	taking:
		for i, c := range b {
			args := p.take(c)
			switch {
			case p.wrong():
				break taking
			case args != nil && !yield(i+1, args):
				break taking
			}
		}
	}
}

// take takes one byte more, and tells the command that is whole by that; nothing, if none is.
func (p *parser) take(c byte) []string {
	if p.wrong() {
		return nil
	}
	p.taken++
	p.next = p.next(p, c)
	args := p.args
	switch {
	case p.wrong():
		// Nothing comes any more of what was read till here.
		*p = parser{}
		return nil
	case p.count == 0 || len(args) < p.count:
		return nil
	default:
		*p = *fresh()
		return args
	}
}

// star takes the first byte of a command.
func star(_ *parser, c byte) step {
	return only(c, '*', count)
}

// count takes a byte of how many arguments there are, or the first one behind that.
func count(p *parser, c byte) step {
	return p.digit(c, 1, api.MaxArgs, count, counted)
}

// counted takes the last byte ahead of the first argument.
func counted(p *parser, c byte) step {
	p.count = p.number
	return only(c, '\n', dollar)
}

// dollar takes the first byte of an argument's length.
func dollar(_ *parser, c byte) step {
	return only(c, '$', length)
}

// length takes a byte of how many bytes the argument has, or the first one behind that.
func length(p *parser, c byte) step {
	return p.digit(c, 0, api.MaxArg, length, measured)
}

// measured takes the last byte ahead of the argument's own.
func measured(_ *parser, c byte) step {
	return only(c, '\n', argument)
}

// argument takes a byte of the argument, whatever it is, as long as there are more of them to come, or the first one behind it.
func argument(p *parser, c byte) step {
	if len(p.text) == p.number {
		return only(c, '\r', closed)
	}
	p.text = append(p.text, c)
	return argument
}

// closed takes the last byte behind an argument; another argument begins there, or another command.
func closed(p *parser, c byte) step {
	p.args = append(p.args, string(p.text))
	p.text = p.text[:0]
	if len(p.args) < p.count {
		return only(c, '\n', dollar)
	}
	return only(c, '\n', star)
}

// only goes on by then, if c is what has to be there.
func only(c, wanted byte, then step) step {
	if c != wanted {
		return nil
	}
	return then
}

// digit takes a byte of a number of least, 0 or 1, to most, and goes on by more; or the first one behind it, and goes on by then.
func (p *parser) digit(c byte, least, most int, more, then step) step {
	if len(p.text) > 0 && c == '\r' {
		p.text = p.text[:0]
		return then
	}
	p.text = append(p.text, c)
	// What a number begins with is a number too, and no greater one: so what is none, or is too great, is so for good, by this byte.
	n, ok := digits.Upto(string(p.text), least, most)
	if !ok {
		return nil
	}
	p.number = n
	return more
}

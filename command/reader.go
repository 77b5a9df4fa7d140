package command

import (
	"strings"

	"tapster/api"
	"tapster/book"
	"tapster/digits"
	"tapster/limiter"
	"tapster/scope"
)

const (
	noParts = "-" // the path of no parts
	slash   = "/" // between the parts of a path
	colon   = ":" // between the parts of a wish
)

// wishParts is how many parts a wish has: a name, how deep, and a cost.
const wishParts = 3

// reader is arguments that are read into a Command, and the first error of that; behind an error nothing that is read means anything. How many arguments there are is asked ahead of reading.
type reader struct {
	args  []string // those that are left
	told  api.Command
	errno api.Errno
}

// name reads the Name of a policy.
func (r *reader) name() {
	r.told.Name = r.text(book.Named)
}

// key reads a Name that is a key.
func (r *reader) key() {
	r.told.Name = r.text(func(arg string) bool {
		return arg != "" && len(arg) <= api.MaxPart
	})
}

// policy reads the Policy's fields, in their order.
func (r *reader) policy() {
	p := api.Policy{
		Kind:   r.number(api.Bucket, api.Count),
		Limit:  r.number(0, api.MaxPeriod),
		Period: r.number(0, api.MaxPeriod),
		Burst:  r.number(0, api.MaxPeriod),
		Cap:    r.number(0, api.MaxPeriod),
		Open:   r.number(0, 1) == 1,
	}
	if limiter.Check(p) != api.OK {
		r.keep(api.ErrArg)
	}
	r.told.Policy = p
}

// path reads the Path.
func (r *reader) path() {
	arg := r.next()
	if arg == noParts {
		return
	}
	r.told.Path = split(arg, slash, api.MaxPath)
	r.keep(scope.Path(r.told.Path...))
}

// wishes reads all arguments that are left as Wishes.
func (r *reader) wishes() {
	if len(r.args) > api.MaxWish {
		r.keep(api.ErrLong)
		return
	}
	for len(r.args) > 0 {
		r.told.Wishes = append(r.told.Wishes, r.wish())
	}
}

// wish reads one wish, whose parts are read as arguments are.
func (r *reader) wish() api.Wish {
	parts := split(r.next(), colon, wishParts)
	if len(parts) != wishParts {
		r.keep(api.ErrArg)
		return api.Wish{}
	}
	x := reader{args: parts}
	x.name()
	deep := x.number(0, api.MaxPath)
	cost := x.number(1, api.MaxLimit)
	r.keep(x.errno)
	return api.Wish{Name: x.told.Name, Deep: deep, Cost: cost}
}

// most reads a Cost as the one wish, if there is an argument for it.
func (r *reader) most() {
	if len(r.args) > 0 {
		r.told.Wishes = []api.Wish{{Cost: r.number(0, api.MaxLimit)}}
	}
}

// number reads a number of least to most.
func (r *reader) number(least, most int) int {
	n, ok := digits.Upto(r.next(), least, most)
	if !ok {
		r.keep(api.ErrArg)
	}
	return n
}

// text reads an argument as it is, if it may be.
func (r *reader) text(may func(arg string) bool) string {
	arg := r.next()
	if !may(arg) {
		r.keep(api.ErrArg)
	}
	return arg
}

// next takes the next argument.
func (r *reader) next() string {
	arg := r.args[0]
	r.args = r.args[1:]
	return arg
}

// keep keeps an error, if it is the first one: those behind it may come of it.
func (r *reader) keep(errno api.Errno) {
	if r.errno == api.OK {
		r.errno = errno
	}
}

// split tells the parts of text, between which sep stands; of more than most, just one more.
func split(text, sep string, most int) []string {
	var parts []string
	for part := range strings.SplitSeq(text, sep) {
		parts = append(parts, part)
		if len(parts) > most {
			break
		}
	}
	return parts
}

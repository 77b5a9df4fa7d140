package reply

import (
	"math"
	"strings"

	"tapster/api"
	"tapster/digits"
)

// greatest is how many texts a reply may have, and how many bytes each of them, where it is waited for.
const greatest = 1 << 40

// rest is what is left to be read, and the first error of what was read; behind an error nothing that is read means anything.
type rest struct {
	text  string
	errno api.Errno
}

// signs tells how what stands behind each sign is read.
func signs() map[byte]func(r *rest) api.Reply {
	return map[byte]func(r *rest) api.Reply{
		'+': func(r *rest) api.Reply { return api.Reply{Kind: api.Simple, Text: r.line(isLine)} },
		'-': func(r *rest) api.Reply { return api.Reply{Kind: api.Error, Text: r.line(isLine)} },
		':': func(r *rest) api.Reply { return api.Reply{Kind: api.Int, N: r.number(math.MinInt, math.MaxInt)} },
		'$': bulk,
		'*': list,
	}
}

// first tells the reply that text begins with, and how many bytes it takes.
func first(text string) (api.Reply, int, api.Errno) {
	if text == "" {
		return api.Reply{}, 0, api.ErrShort
	}
	read := signs()[text[0]]
	if read == nil {
		return api.Reply{}, 0, api.ErrForm
	}
	r := rest{text: text[1:]}
	x := read(&r)
	if r.errno != api.OK {
		return api.Reply{}, 0, r.errno
	}
	return x, len(text) - len(r.text), api.OK
}

// bulk reads a Bulk, or a Null, behind its sign.
func bulk(r *rest) api.Reply {
	size := r.number(null, greatest)
	if size == null {
		return api.Reply{Kind: api.Null}
	}
	return api.Reply{Kind: api.Bulk, Text: r.bytes(size)}
}

// list reads a List behind its sign.
func list(r *rest) api.Reply {
	count := r.number(0, greatest)
	var l []string
	// There may be said to be far more texts than there are bytes.
	for len(l) < count && r.errno == api.OK {
		r.sign('$')
		l = append(l, r.bytes(r.number(0, greatest)))
	}
	return api.Reply{Kind: api.List, L: l}
}

// sign reads a sign, which has to be that one.
func (r *rest) sign(wanted byte) {
	switch {
	case r.text == "":
		r.fail(api.ErrShort)
	case r.text[0] != wanted:
		r.fail(api.ErrForm)
	default:
		r.text = r.text[1:]
	}
}

// number reads a line that is a number of least to most.
func (r *rest) number(least, most int) int {
	line := r.line(func(line string, ended bool) bool {
		_, ok := digits.Upto(line, least, most)
		// All else that a number begins with is a number too, and between 0 and that one.
		begun := line == "" || line == "-" && least < 0
		return ok || begun && !ended
	})
	n, _ := digits.Parse(line)
	return n
}

// isLine tells whether a line may be any text's, as far as it is there.
func isLine(line string, _ bool) bool {
	return !strings.ContainsAny(line, end)
}

// line reads a line, and the end behind it. Asked is whether a line may be, or may be the begin of one, where it isn't ended yet.
func (r *rest) line(may func(line string, ended bool) bool) string {
	line, behind, whole := strings.Cut(r.text, end)
	ended := whole
	if !whole {
		// A 0d may be there of the end, and its 0a not yet.
		line, ended = strings.CutSuffix(line, end[:1])
	}
	switch {
	case !may(line, ended):
		r.fail(api.ErrForm)
		return ""
	case !whole:
		r.fail(api.ErrShort)
		return ""
	default:
		r.text = behind
		return line
	}
}

// bytes reads so many bytes, whatever they are, and the end behind them.
func (r *rest) bytes(size int) string {
	if len(r.text) < size {
		r.fail(api.ErrShort)
		return ""
	}
	text, behind := r.text[:size], r.text[size:]
	switch {
	case strings.HasPrefix(behind, end):
		r.text = behind[len(end):]
		return text
	case strings.HasPrefix(end, behind):
		r.fail(api.ErrShort)
		return ""
	default:
		r.fail(api.ErrForm)
		return ""
	}
}

// fail keeps the first error alone, as those behind it may come of it.
func (r *rest) fail(errno api.Errno) {
	if r.errno == api.OK {
		r.errno = errno
	}
}

package scope

import (
	"slices"
	"strings"

	"tapster/api"
	"tapster/book"
)

// tally is what was wished of each key so far.
type tally map[string]*api.Limit

// charge adds the Cost of a wish to that of its key.
func (t tally) charge(b *book.Book, path []string, wish api.Wish) api.Errno {
	policy, version, there := b.Get(wish.Name)
	switch {
	case !there:
		return api.ErrNone
	case wish.Deep < 0 || wish.Deep > len(path) || wish.Cost < 1:
		return api.ErrArg
	}
	key := Key(wish.Name, version, path, wish.Deep)
	x, there := t[key]
	if !there {
		x = &api.Limit{Key: key, Policy: policy}
		t[key] = x
	}
	// The sum itself might be too great for an int.
	if wish.Cost > api.MaxLimit-x.Cost {
		return api.ErrOver
	}
	x.Cost += wish.Cost
	return api.OK
}

// rising tells the limits by their keys, byte by byte.
func (t tally) rising() []api.Limit {
	var l []api.Limit
	for _, x := range t {
		l = append(l, *x)
	}
	slices.SortFunc(l, func(a, b api.Limit) int { return strings.Compare(a.Key, b.Key) })
	return l
}

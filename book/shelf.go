package book

import "tapster/api"

// shelf is where policies stand.
type shelf struct {
	// The version that was given last. It never falls, so that none is given twice, whatever was dropped.
	version  int
	editions map[string]edition
}

// edition is a policy, with the version that it has by its name.
type edition struct {
	policy  api.Policy
	version int
}

// lay makes p the policy of name, if it is not that already, and tells its version. Both may be.
func (s *shelf) lay(name string, p api.Policy) (int, api.Errno) {
	x, there := s.editions[name]
	switch {
	case !there && len(s.editions) >= api.MaxNames:
		return 0, api.ErrFull
	case there && x.policy == p:
		return x.version, api.OK
	default:
		s.version++
		s.editions[name] = edition{p, s.version}
		return s.version, api.OK
	}
}

// may tells whether a name may have the byte c.
func may(c byte) bool {
	from := func(first, last byte) bool { return first <= c && c <= last }
	return from('a', 'z') || from('A', 'Z') || from('0', '9') || c == '-' || c == '_' || c == '.'
}

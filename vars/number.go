package vars

import (
	"tapster/api"
	"tapster/num"
)

// endless stands for no END: it is above all times, so that one comparison tells who is THERE.
const endless = api.MaxTime + 1

// number is what a key was given.
type number struct {
	n   int
	end int
}

// there tells whether the key of x is THERE at now.
func (x *number) there(now int) bool {
	return x.end > num.Clamp(now)
}

// made tells whether there are Vars.
func (v *Vars) made() bool {
	return v != nil && v.numbers != nil
}

// find tells the number of key; nil, if it is not THERE at now.
func (v *Vars) find(key string, now int) *number {
	if !v.made() {
		return nil
	}
	x, given := v.numbers[key]
	if !given || !x.there(now) {
		return nil
	}
	return x
}

// begin gives n to key, which is not THERE at now, and takes all that is not away for good; ErrFull, if there is no room for it.
func (v *Vars) begin(key string, n int, now int) api.Errno {
	v.sweep(now)
	// There were no more than room: if any went there is room now, and where there is none nothing was changed.
	if len(v.numbers) >= v.room {
		return api.ErrFull
	}
	v.numbers[key] = &number{n, endless}
	return api.OK
}

// sweep takes away all keys that are not THERE at now.
func (v *Vars) sweep(now int) {
	for key, x := range v.numbers {
		if !x.there(now) {
			delete(v.numbers, key)
		}
	}
}

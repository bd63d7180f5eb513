package wire

import "hayrick/api"

// fault is what is given up: a type that nothing outside this package has, so that no other panic is taken for one.
type fault struct{ errno api.Errno }

// must gives up with e, unless ok.
func must(ok bool, e api.Errno) {
	if !ok {
		panic(fault{e})
	}
}

// givenUp is the error of what a face has caught: OK, if that is nothing.
func givenUp(caught any) api.Errno {
	if caught == nil {
		return api.OK
	}
	f, ok := caught.(fault)
	if !ok {
		// It is a slip of this package's own: an answer would hide it.
		panic(caught)
	}
	return f.errno
}

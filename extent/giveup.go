package extent

import "hayrick/api"

// must gives up with e, unless that is OK.
func must(e api.Errno) {
	if e != api.OK {
		panic(e)
	}
}

// mustBe gives up, unless what is asked of a tree is so.
func mustBe(so bool) {
	if !so {
		panic(api.EUCLEAN)
	}
}

// givenUp is the error with which was given up: OK, if nothing was caught.
func givenUp(caught any) api.Errno {
	switch e := caught.(type) {
	case nil:
		return api.OK
	case api.Errno:
		return e
	default:
		// It is a slip of this package's own: an answer would hide it.
		panic(caught)
	}
}

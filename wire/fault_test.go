package wire

import (
	"errors"
	"testing"

	"hayrick/api"
)

// P1: what is given up is answered; nothing else is taken for that, not even an error's number.
func TestGivenUp(t *testing.T) {
	if e := givenUp(nil); e != api.OK {
		t.Errorf("of nothing: %d", e)
	}
	if e := givenUp(fault{api.ERANGE}); e != api.ERANGE {
		t.Errorf("of ERANGE: %d", e)
	}
	for _, other := range []any{api.ERANGE, "text", errors.New("text"), 34} {
		var got any
		func() {
			defer func() { got = recover() }()
			givenUp(other)
		}()
		if got != other {
			t.Errorf("of %v: %v", other, got)
		}
	}
}

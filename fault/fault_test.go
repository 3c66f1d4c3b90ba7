package fault

import (
	"testing"

	"fascine/api"
)

func caught(well bool, e api.Errno) (got api.Errno) {
	defer func() {
		if r := recover(); r != nil {
			got = Errno(r)
		}
	}()
	Unless(well, e)
	return api.OK
}

func TestUnless(t *testing.T) {
	for _, e := range []api.Errno{api.ErrPiece, api.ErrText} {
		if got := caught(false, e); got != e {
			t.Errorf("caught %d, want %d", got, e)
		}
		if got := caught(true, e); got != api.OK {
			t.Errorf("caught %d, though all is well", got)
		}
	}
}

func TestOtherPanicsGoOn(t *testing.T) {
	defer func() {
		if r := recover(); r != "other" {
			t.Errorf("recovered %v", r)
		}
	}()
	Errno("other")
}

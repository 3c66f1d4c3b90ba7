// Package fault carries what is wrong with a packet, or with its text, from deep inside up to the call that answers it.
package fault

import "fascine/api"

// Fault is what is panicked with.
type Fault struct {
	Errno api.Errno
}

// Unless gives up with that error, if all is not well.
func Unless(well bool, e api.Errno) {
	if !well {
		panic(Fault{e})
	}
}

// Errno of what was recovered. A panic with anything else says nothing of what was handed in, so it goes on.
func Errno(recovered any) api.Errno {
	f, ok := recovered.(Fault)
	if !ok {
		panic(recovered)
	}
	return f.Errno
}

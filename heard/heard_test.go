package heard

import (
	"bytes"
	"slices"
	"testing"

	"fascine/api"
	"fascine/fault"
	"fascine/wire"
)

var plan = api.Plan{Size: 2, Most: 2, Spare: 1}

func add(all Objects, h wire.Head, piece string) (is bool, e api.Errno) {
	defer func() {
		if r := recover(); r != nil {
			e = fault.Errno(r)
		}
	}()
	return all.Add(h, []byte(piece)), api.OK
}

func TestAdd(t *testing.T) {
	all := Objects{}
	for _, c := range []struct {
		head  wire.Head
		piece string
		is    bool
		e     api.Errno
	}{
		{wire.Head{Id: 7, Length: 6, Plan: plan, Block: 1, Piece: 1}, "ab", true, api.OK},
		{wire.Head{Id: 7, Length: 6, Plan: plan, Block: 1, Piece: 1}, "ab", false, api.OK},
		{wire.Head{Id: 7, Length: 6, Plan: plan, Block: 1, Piece: 1}, "ac", false, api.ErrOther},
		{wire.Head{Id: 7, Length: 5, Plan: plan, Block: 1, Piece: 1}, "ab", false, api.ErrOther},
		{wire.Head{Id: 7, Length: 6, Plan: api.Plan{Size: 2, Most: 2}, Block: 1}, "ab", false, api.ErrOther},
		{wire.Head{Id: 7, Length: 6, Plan: plan, Block: 0, Piece: 2}, "ac", true, api.OK},
		{wire.Head{Id: 6, Length: 5, Plan: plan, Block: 0, Piece: 0}, "xy", true, api.OK},
	} {
		if is, e := add(all, c.head, c.piece); is != c.is || e != c.e {
			t.Errorf("%+v, %s: %t, %d", c.head, c.piece, is, e)
		}
	}
	if ids := all.Ids(); !slices.Equal(ids, []int{6, 7}) {
		t.Errorf("Ids: %v", ids)
	}
	if got, want := all[7].Look(), (api.Look{Length: 6, Plan: plan, Heard: 2, Blocks: 2, Whole: 1}); got != want {
		t.Errorf("Look: %+v, want %+v", got, want)
	}
}

func TestFull(t *testing.T) {
	all := Objects{}
	for id := range api.MaxObjects + 3 {
		want := api.OK
		if id >= api.MaxObjects {
			want = api.ErrFull
		}
		if is, e := add(all, wire.Head{Id: id, Length: 6, Plan: plan}, "ab"); e != want || is != (e == api.OK) || all[id] != nil != is {
			t.Errorf("object %d: %t, %d", id, is, e)
		}
	}
	if _, e := add(all, wire.Head{Id: 3, Length: 6, Plan: plan, Piece: 1}, "ab"); e != api.OK {
		t.Errorf("one that is known: %d", e)
	}
}

func TestAddCopies(t *testing.T) {
	all := Objects{}
	piece := []byte("ab")
	all.Add(wire.Head{Id: 1, Length: 6, Plan: plan}, piece)
	clear(piece)
	if got := all[1].Blocks[0][0]; !bytes.Equal(got, []byte("ab")) {
		t.Errorf("the piece that is kept is %q", got)
	}
}

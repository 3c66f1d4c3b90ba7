package wire

import (
	"bytes"
	"testing"

	"fascine/api"
	"fascine/fault"
)

func TestIsId(t *testing.T) {
	for id, want := range map[int]bool{-1: false, 0: true, 65535: true, 65536: false} {
		if IsId(id) != want {
			t.Errorf("IsId(%d) = %t", id, !want)
		}
	}
}

func TestPack(t *testing.T) {
	h := Head{Id: 0xABCD, Length: 2000, Plan: api.Plan{Size: 3, Most: 20, Spare: 19}, Block: 33, Piece: 38}
	piece := []byte{1, 0, 255}
	got := Pack(h, piece)
	want := []byte{70, 0xAB, 0xCD, 7, 208, 3, 20, 19, 33, 38, 1, 0, 255}
	if !bytes.Equal(got, want) {
		t.Errorf("Pack = %v, want %v", got, want)
	}
	piece[0] = 9
	if got[10] != 1 {
		t.Errorf("Pack shares memory with the piece")
	}
}

func unpack(packet []byte) (h Head, piece []byte, e api.Errno) {
	defer func() {
		if r := recover(); r != nil {
			h, piece, e = Head{}, nil, fault.Errno(r)
		}
	}()
	h, piece = Unpack(packet)
	return h, piece, api.OK
}

func TestUnpack(t *testing.T) {
	for _, want := range []Head{
		{Id: 0xABCD, Length: 2000, Plan: api.Plan{Size: 3, Most: 20, Spare: 19}, Block: 33, Piece: 37},
		{Id: 65535, Length: 0, Plan: api.Plan{Size: 3, Most: 1, Spare: 0}},
		{Id: 0, Length: 768, Plan: api.Plan{Size: 3, Most: 1, Spare: 20}, Block: 255, Piece: 20},
	} {
		got, piece, e := unpack(Pack(want, []byte{1, 0, 255}))
		if got != want || !bytes.Equal(piece, []byte{1, 0, 255}) || e != api.OK {
			t.Errorf("Unpack = %+v, %v, %d, want %+v", got, piece, e, want)
		}
	}
}

func TestUnpackGivesUp(t *testing.T) {
	for _, h := range []Head{
		{Length: 2001, Plan: api.Plan{Size: 3, Most: 20, Spare: 19}},
		{Length: 30, Plan: api.Plan{Size: 3, Most: 21, Spare: 19}},
		{Length: 30, Plan: api.Plan{Size: 3, Most: 10, Spare: 19}, Block: 1},
		{Length: 30, Plan: api.Plan{Size: 3, Most: 10, Spare: 19}, Piece: 29},
		{Length: 769, Plan: api.Plan{Size: 3, Most: 1, Spare: 19}},
		{Length: 30, Plan: api.Plan{Size: 2, Most: 10, Spare: 19}},
		{Length: 30, Plan: api.Plan{Size: 4, Most: 10, Spare: 19}},
	} {
		if got, piece, e := unpack(Pack(h, []byte{1, 0, 255})); e != api.ErrPiece {
			t.Errorf("Unpack of %+v = %+v, %v, %d", h, got, piece, e)
		}
	}
}

package wire

import (
	"bytes"
	"testing"

	"fascine/api"
)

func TestIsId(t *testing.T) {
	for id, want := range map[int]bool{-1: false, 0: true, 65535: true, 65536: false} {
		if IsId(id) != want {
			t.Errorf("IsId(%d) = %t", id, !want)
		}
	}
}

func TestPack(t *testing.T) {
	h := Head{Id: 0xABCD, Length: 2000, Plan: api.Plan{Size: 3, Most: 20, Spare: 19}, Block: 33, Piece: 38}
	piece := []byte{1, 0, 255}
	got := Pack(h, piece)
	want := []byte{70, 0xAB, 0xCD, 7, 208, 3, 20, 19, 33, 38, 1, 0, 255}
	if !bytes.Equal(got, want) {
		t.Errorf("Pack = %v, want %v", got, want)
	}
	piece[0] = 9
	if got[10] != 1 {
		t.Errorf("Pack shares memory with the piece")
	}
}

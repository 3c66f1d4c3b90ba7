package cut

import (
	"bytes"
	"slices"
	"testing"

	"fascine/api"
)

func TestShareIsEven(t *testing.T) {
	for pieces := 1; pieces < 60; pieces++ {
		for count := 1; count <= pieces; count++ {
			blocks := share(pieces, count)
			sum := 0
			for _, k := range blocks {
				sum += k
			}
			if len(blocks) != count || sum != pieces || blocks[0]-blocks[count-1] > 1 {
				t.Errorf("share(%d, %d) = %v", pieces, count, blocks)
			}
			if !slices.IsSortedFunc(blocks, func(a, b int) int { return b - a }) {
				t.Errorf("share(%d, %d) = %v: the greater ones are not first", pieces, count, blocks)
			}
		}
	}
}

func TestWeightsOfAllSparePieces(t *testing.T) {
	for j := range api.MaxSpare {
		for i := range api.MaxMost {
			if w := Weight(j, i); w < 1 || w > 255 {
				t.Errorf("Weight(%d, %d) = %d", j, i, w)
			}
		}
	}
	if Weight(0, 0) != 253 {
		t.Errorf("Weight(0, 0) = %d", Weight(0, 0))
	}
}

func TestFillUp(t *testing.T) {
	object := []byte{1, 2, 3, 4, 5}
	if got := FillUp(object[:4], []int{1, 1}, 3); !bytes.Equal(got, []byte{1, 2, 3, 4, 0, 0}) {
		t.Errorf("FillUp = %v", got)
	}
	if got := FillUp(nil, []int{1}, 2); !bytes.Equal(got, []byte{0, 0}) {
		t.Errorf("FillUp of nothing = %v", got)
	}
}

func TestPieces(t *testing.T) {
	got := Pieces([]byte{97, 98}, api.Plan{Size: 2, Most: 1, Spare: 1})
	if len(got) != 2 || !bytes.Equal(got[0], []byte{97, 98}) || !bytes.Equal(got[1], []byte{154, 128}) {
		t.Errorf("Pieces = %v", got)
	}
}

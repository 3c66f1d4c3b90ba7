package mend

import (
	"bytes"
	"testing"

	"fascine/api"
	"fascine/cut"
)

// broken: a block's pieces, of which those with these numbers are lost.
func broken(size, spare int, lost ...int) (pieces [][]byte, data []byte) {
	for at := range 20 * size {
		data = append(data, byte(at*at+7*at+91))
	}
	pieces = cut.Pieces(data, api.Plan{Size: size, Most: 20, Spare: spare})
	for _, n := range lost {
		pieces[n] = nil
	}
	return pieces, data
}

func TestBlockWithoutEachPair(t *testing.T) {
	for one := range 22 {
		for two := range one {
			pieces, want := broken(3, 2, one, two)
			if got, whole := block(pieces, 2, nil); !whole || !bytes.Equal(got, want) {
				t.Errorf("without %d and %d: %v, %t", one, two, got, whole)
			}
		}
	}
	pieces, _ := broken(3, 2, 0, 10, 21)
	if got, whole := block(pieces, 2, nil); whole || got != nil {
		t.Errorf("of 19 pieces: %v, %t", got, whole)
	}
}

func TestBlockLeavesPieces(t *testing.T) {
	pieces, _ := broken(3, 2, 4, 5)
	same, _ := broken(3, 2, 4, 5)
	block(pieces, 2, nil)
	for n := range pieces {
		if !bytes.Equal(pieces[n], same[n]) || (pieces[n] == nil) != (same[n] == nil) {
			t.Errorf("piece %d is written", n)
		}
	}
}

// Of a block that is given up nothing comes, though it could be put together.
func TestBlockGivenUp(t *testing.T) {
	done := make(chan struct{})
	pieces, want := broken(3, 2, 4, 5)
	if got, whole := block(pieces, 2, done); !whole || !bytes.Equal(got, want) {
		t.Errorf("not given up: %v, %t", got, whole)
	}
	close(done)
	if got, whole := block(pieces, 2, done); whole || got != nil {
		t.Errorf("given up: %v, %t", got, whole)
	}
}

func TestBlocksInTheirOrder(t *testing.T) {
	var blocks [][][]byte
	var want []byte
	for n := range 50 {
		pieces, data := broken(1+n%3, 2, n%22, n%20+1)
		blocks, want = append(blocks, pieces), append(want, data...)
	}
	if got, whole := Blocks(blocks, 2); !whole || !bytes.Equal(got, want) {
		t.Errorf("%v, %t, want %v", got, whole, want)
	}
	blocks[30], _ = broken(1, 2, 1, 2, 3)
	blocks[40], _ = broken(1, 2, 0, 1, 2, 3, 20, 21)
	if got, whole := Blocks(blocks, 2); whole || len(got) != 0 {
		t.Errorf("too few pieces of two blocks: %v, %t", got, whole)
	}
}

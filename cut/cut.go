// Package cut tells how objects are cut into blocks and pieces, and makes the spare pieces.
package cut

import (
	"fascine/api"
	"fascine/field"
)

// Blocks tells how many pieces each block is cut into; false, if an object so long can't be cut with that plan.
func Blocks(length int, p api.Plan) ([]int, bool) {
	// Both are looked at ahead of any sum, so that none of these can run over.
	if !isLength(length) || !isPlan(p) {
		return nil, false
	}
	pieces := max(1, divideUp(length, p.Size))
	count := divideUp(pieces, p.Most)
	if count > api.MaxBlocks {
		return nil, false
	}
	return share(pieces, count), true
}

func isLength(n int) bool { return within(n, 0, api.MaxObject) }

func isPlan(p api.Plan) bool {
	return within(p.Size, 1, api.MaxSize) && within(p.Most, 1, api.MaxMost) && within(p.Spare, 0, api.MaxSpare)
}

func within(n, least, most int) bool { return least <= n && n <= most }

func divideUp(a, b int) int { return (a + b - 1) / b }

// share spreads the pieces over the blocks as evenly as can be, the greater blocks first.
func share(pieces, count int) []int {
	blocks := make([]int, count)
	for z := range blocks {
		blocks[z] = pieces / count
		if z < pieces%count {
			blocks[z]++
		}
	}
	return blocks
}

// FillUp copies the object into the room of all pieces of these blocks; what it leaves over stays 0.
func FillUp(object []byte, blocks []int, size int) []byte {
	pieces := 0
	for _, count := range blocks {
		pieces += count
	}
	filled := make([]byte, pieces*size)
	copy(filled, object)
	return filled
}

// Pieces of a block's bytes, whole pieces all of them, and behind these the spare ones.
func Pieces(block []byte, p api.Plan) [][]byte {
	own := split(block, p.Size)
	pieces := make([][]byte, 0, len(own)+p.Spare)
	pieces = append(pieces, own...)
	for j := range p.Spare {
		pieces = append(pieces, spare(own, j, p.Size))
	}
	return pieces
}

func split(block []byte, size int) [][]byte {
	var own [][]byte
	for at := 0; at < len(block); at += size {
		own = append(own, block[at:at+size])
	}
	return own
}

func spare(own [][]byte, j, size int) []byte {
	sum := make([]byte, size)
	for i, piece := range own {
		field.AddTimes(sum, piece, Weight(j, i))
	}
	return sum
}

// Weight of a block's own piece i in its spare piece j. j and i are below 32, and 255 less j is above that, so the
// two are never the same, and there is an inverse.
func Weight(j, i int) int { return field.Inverse(field.Add(field.Top-j, i)) }

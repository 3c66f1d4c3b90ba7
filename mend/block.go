package mend

import (
	"bytes"
	"slices"

	"fascine/cut"
	"fascine/field"
)

// block puts one block together out of the pieces with the least numbers; false, if there are too few of them, or it is
// given up. The last ones of the list, as many as spare says, are the spare pieces.
func block(pieces [][]byte, spare int, done <-chan struct{}) ([]byte, bool) {
	count := len(pieces) - spare
	own, more := slices.Clone(pieces[:count]), pieces[count:]
	lost, extra := which(own, false), which(more, true)
	if len(extra) < len(lost) {
		return nil, false
	}
	var rows [][]byte
	for _, j := range extra[:len(lost)] {
		rows = append(rows, equation(own, lost, j, more[j]))
	}
	if !solve(rows, done) {
		return nil, false
	}
	for k, i := range lost {
		own[i] = rows[k][len(lost):]
	}
	return bytes.Join(own, nil), true
}

// which pieces, by number, were heard, or were not.
func which(pieces [][]byte, heard bool) []int {
	var numbers []int
	for n, piece := range pieces {
		if (piece != nil) == heard {
			numbers = append(numbers, n)
		}
	}
	return numbers
}

// equation that the spare piece j is: the weights of the lost pieces, and behind these the bytes that the lost pieces,
// each so many times, add up to. (Of the own pieces those that are lost are nil, and take nothing away.)
func equation(own [][]byte, lost []int, j int, piece []byte) []byte {
	row := make([]byte, 0, len(lost)+len(piece))
	for _, i := range lost {
		row = append(row, byte(cut.Weight(j, i)))
	}
	row = append(row, piece...)
	for i, known := range own {
		field.AddTimes(row[len(lost):], known, cut.Weight(j, i))
	}
	return row
}

// solve leaves in each row k the lost piece k alone, once; false, if it is given up. The weights are the inverses of
// sums of different numbers, so the first k rows' first k weights can always be solved, and no row k has weight 0 at its
// place when its turn comes: rows are never to be swapped.
func solve(rows [][]byte, done <-chan struct{}) bool {
	for k, row := range rows {
		if givenUp(done) {
			return false
		}
		scale(row, field.Inverse(int(row[k])))
		for r, other := range rows {
			if r != k {
				field.AddTimes(other, row, int(other[k]))
			}
		}
	}
	return true
}

func scale(row []byte, times int) {
	for at, b := range row {
		row[at] = byte(field.Mul(int(b), times))
	}
}

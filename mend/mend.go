// Package mend puts blocks together out of pieces that were heard.
package mend

import (
	"bytes"
	"sync"
)

// result is what comes of a block: its bytes, or that they can't be put together.
type result struct {
	block int
	data  []byte
	whole bool
}

// Blocks puts all blocks together at once, and tells their bytes one behind the other; false, if one of them can't be
// put together. Each block is the list of all its pieces, by number; one that was not heard is nil. The last ones of the
// list, as many as spare says, are the spare pieces.
func Blocks(blocks [][][]byte, spare int) ([]byte, bool) {
	results := make(chan result)
	done := make(chan struct{})
	var workers sync.WaitGroup
	for z, pieces := range blocks {
		workers.Add(1)
		go func() {
			defer workers.Done()
			data, whole := block(pieces, spare, done)
			select {
			case results <- result{z, data, whole}:
			case <-done:
			}
		}()
	}
	parts, whole := collect(results, done, len(blocks))
	workers.Wait()
	return bytes.Join(parts, nil), whole
}

// collect what comes of that many blocks. Nobody else closes done, so that it is closed once, however many blocks fail.
func collect(results <-chan result, done chan<- struct{}, count int) ([][]byte, bool) {
	parts := make([][]byte, count)
	for range count {
		r := <-results
		if !r.whole {
			close(done)
			return nil, false
		}
		parts[r.block] = r.data
	}
	return parts, true
}

// givenUp tells whether the bytes of this block are of no use any more.
func givenUp(done <-chan struct{}) bool {
	select {
	case <-done:
		return true
	default:
		return false
	}
}

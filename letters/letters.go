// Package letters writes bytes down as text, six bits a letter, and reads them back.
package letters

import (
	"strings"

	"fascine/api"
	"fascine/fault"
)

const (
	blank   = ' '
	lineEnd = '\n'
)

// alphabet: the letters by their numbers.
var alphabet = makeAlphabet()

func makeAlphabet() [64]rune {
	var all [64]rune
	n := 0
	for _, run := range [...]struct{ first, last rune }{{'A', 'Z'}, {'a', 'z'}, {'\u03B1', '\u03BC'}} {
		for letter := run.first; letter <= run.last; letter++ {
			all[n] = letter
			n++
		}
	}
	return all
}

// Write bytes down; the last letter is filled up with bits 0.
func Write(data []byte) string {
	var text strings.Builder
	bits, count := 0, 0
	for _, b := range data {
		bits, count = bits<<8|int(b), count+8
		for count >= 6 {
			count -= 6
			text.WriteRune(alphabet[bits>>count])
			bits = lowest(bits, count)
		}
	}
	if count > 0 {
		text.WriteRune(alphabet[bits<<(6-count)])
	}
	return text.String()
}

// Read the bytes that are written down in a text; it gives up with ErrText, if that is none.
func Read(text string) []byte {
	var data []byte
	bits, count := 0, 0
	for _, letter := range text {
		if letter == blank || letter == lineEnd {
			continue
		}
		bits, count = bits<<6|number(letter), count+6
		if count >= 8 {
			count -= 8
			data = append(data, byte(bits>>count))
			bits = lowest(bits, count)
		}
	}
	// With six bits left over the last letter would say nothing, so that two texts would be of the same bytes.
	fault.Unless(count < 6 && bits == 0, api.ErrText)
	return data
}

// number of a letter. Bytes that are no UTF-8 are ranged over as U+FFFD, which is none of the letters.
func number(letter rune) int {
	for n, other := range alphabet {
		if other == letter {
			return n
		}
	}
	panic(fault.Fault{Errno: api.ErrText})
}

func lowest(bits, count int) int { return bits & (1<<count - 1) }

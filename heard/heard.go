// Package heard keeps the pieces that were heard, of each object its own.
package heard

import (
	"bytes"
	"maps"
	"slices"

	"fascine/api"
	"fascine/cut"
	"fascine/fault"
	"fascine/wire"
)

// Objects that were heard of, by their Ids.
type Objects map[int]*Object

// Object of which a piece, or more, was heard.
type Object struct {
	Length int
	Plan   api.Plan
	// Blocks are lists of all their pieces, by number; one that was not heard is nil.
	Blocks [][][]byte
}

// Add keeps a packet's piece, in memory of its own, and tells whether it is new; it gives up with ErrOther or ErrFull.
func (all Objects) Add(h wire.Head, piece []byte) bool {
	o := all[h.Id]
	if o == nil {
		fault.Unless(len(all) < api.MaxObjects, api.ErrFull)
		o = newObject(h)
		all[h.Id] = o
	}
	return o.add(h, piece)
}

// Ids of all objects, the least first.
func (all Objects) Ids() []int { return slices.Sorted(maps.Keys(all)) }

// newObject without any piece, of a packet's head, which says that it can be cut so.
func newObject(h wire.Head) *Object {
	o := &Object{Length: h.Length, Plan: h.Plan}
	counts, _ := cut.Blocks(h.Length, h.Plan)
	for _, count := range counts {
		o.Blocks = append(o.Blocks, make([][]byte, count+h.Plan.Spare))
	}
	return o
}

func (o *Object) add(h wire.Head, piece []byte) bool {
	fault.Unless(h.Length == o.Length && h.Plan == o.Plan, api.ErrOther)
	pieces := o.Blocks[h.Block]
	if known := pieces[h.Piece]; known != nil {
		fault.Unless(bytes.Equal(piece, known), api.ErrOther)
		return false
	}
	pieces[h.Piece] = bytes.Clone(piece)
	return true
}

// Look tells how the object stands.
func (o *Object) Look() api.Look {
	look := api.Look{Length: o.Length, Plan: o.Plan, Blocks: len(o.Blocks)}
	for _, pieces := range o.Blocks {
		count := countHeard(pieces)
		look.Heard += count
		if count >= len(pieces)-o.Plan.Spare {
			look.Whole++
		}
	}
	return look
}

func countHeard(pieces [][]byte) int {
	count := 0
	for _, piece := range pieces {
		if piece != nil {
			count++
		}
	}
	return count
}

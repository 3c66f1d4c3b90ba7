// Package fascine: an object in many pieces, any few of which are enough: see DOC.md.
package fascine

import (
	"fascine/api"
	"fascine/cut"
	"fascine/fault"
	"fascine/field"
	"fascine/letters"
	"fascine/wire"
)

// Listener puts objects together.
type Listener struct{}

// Mul is the product in the field (P3).
func Mul(a, b int) (int, api.Errno) {
	if !field.Has(a) || !field.Has(b) {
		return 0, api.ErrArg
	}
	return field.Mul(a, b), api.OK
}

// Inverse in the field (P3).
func Inverse(a int) (int, api.Errno) {
	if !field.Has(a) || a == 0 {
		return 0, api.ErrArg
	}
	return field.Inverse(a), api.OK
}

// Blocks tells how an object is cut (P4).
func Blocks(length int, p api.Plan) ([]int, api.Errno) {
	blocks, ok := cut.Blocks(length, p)
	if !ok {
		return nil, api.ErrArg
	}
	return blocks, api.OK
}

// Packets of an object (P4).
func Packets(id int, object []byte, p api.Plan) ([][]byte, api.Errno) {
	blocks, ok := cut.Blocks(len(object), p)
	if !ok || !wire.IsId(id) {
		return nil, api.ErrArg
	}
	var packets [][]byte
	head := wire.Head{Id: id, Length: len(object), Plan: p}
	rest := cut.FillUp(object, blocks, p.Size)
	for z, count := range blocks {
		head.Block = z
		packets = appendPackets(packets, head, rest[:count*p.Size])
		rest = rest[count*p.Size:]
	}
	return packets, api.OK
}

// appendPackets packs all pieces of one block; the head is a copy, so that the piece's number can be set in it.
func appendPackets(packets [][]byte, head wire.Head, block []byte) [][]byte {
	for n, piece := range cut.Pieces(block, head.Plan) {
		head.Piece = n
		packets = append(packets, wire.Pack(head, piece))
	}
	return packets
}

// Text of a packet (P5).
func Text(packet []byte) (text string, e api.Errno) {
	defer func() {
		if r := recover(); r != nil {
			text, e = "", fault.Errno(r)
		}
	}()
	wire.Unpack(packet)
	return letters.Write(packet), api.OK
}

// Packet of a text (P5).
func Packet(text string) (packet []byte, e api.Errno) {
	defer func() {
		if r := recover(); r != nil {
			packet, e = nil, fault.Errno(r)
		}
	}()
	packet = letters.Read(text)
	wire.Unpack(packet)
	return packet, api.OK
}

// New makes a listener (P6).
func New() *Listener { return nil }

// Hear some packets (P6).
func (l *Listener) Hear(packets ...[]byte) (int, api.Errno) { return 0, api.OK }

// Read some packets' texts (P7).
func (l *Listener) Read(text string) (int, int, api.Errno) { return 0, 0, api.OK }

// Ids of objects that were heard of (P8).
func (l *Listener) Ids() []int { return nil }

// Look tells how an object stands (P8).
func (l *Listener) Look(id int) (api.Look, api.Errno) { return api.Look{}, api.OK }

// Object puts one together (P9).
func (l *Listener) Object(id int) ([]byte, api.Errno) { return nil, api.OK }

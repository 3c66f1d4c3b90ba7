// Package fascine: an object in many pieces, any few of which are enough: see DOC.md.
package fascine

import (
	"strings"

	"fascine/api"
	"fascine/cut"
	"fascine/fault"
	"fascine/field"
	"fascine/heard"
	"fascine/letters"
	"fascine/mend"
	"fascine/wire"
)

// Listener puts objects together.
type Listener struct {
	objects heard.Objects
}

// Mul is the product in the field (P3).
func Mul(a, b int) (int, api.Errno) {
	if !field.Has(a) || !field.Has(b) {
		return 0, api.ErrArg
	}
	return field.Mul(a, b), api.OK
}

// Inverse in the field (P3).
func Inverse(a int) (int, api.Errno) {
	if !field.Has(a) || a == 0 {
		return 0, api.ErrArg
	}
	return field.Inverse(a), api.OK
}

// Blocks tells how an object is cut (P4).
func Blocks(length int, p api.Plan) ([]int, api.Errno) {
	blocks, ok := cut.Blocks(length, p)
	if !ok {
		return nil, api.ErrArg
	}
	return blocks, api.OK
}

// Packets of an object (P4).
func Packets(id int, object []byte, p api.Plan) ([][]byte, api.Errno) {
	blocks, ok := cut.Blocks(len(object), p)
	if !ok || !wire.IsId(id) {
		return nil, api.ErrArg
	}
	var packets [][]byte
	head := wire.Head{Id: id, Length: len(object), Plan: p}
	rest := cut.FillUp(object, blocks, p.Size)
	for z, count := range blocks {
		head.Block = z
		packets = appendPackets(packets, head, rest[:count*p.Size])
		rest = rest[count*p.Size:]
	}
	return packets, api.OK
}

// appendPackets packs all pieces of one block; the head is a copy, so that the piece's number can be set in it.
func appendPackets(packets [][]byte, head wire.Head, block []byte) [][]byte {
	for n, piece := range cut.Pieces(block, head.Plan) {
		head.Piece = n
		packets = append(packets, wire.Pack(head, piece))
	}
	return packets
}

// Text of a packet (P5).
func Text(packet []byte) (text string, e api.Errno) {
	defer func() {
		if r := recover(); r != nil {
			text, e = "", fault.Errno(r)
		}
	}()
	wire.Unpack(packet)
	return letters.Write(packet), api.OK
}

// Packet of a text (P5).
func Packet(text string) (packet []byte, e api.Errno) {
	defer func() {
		if r := recover(); r != nil {
			packet, e = nil, fault.Errno(r)
		}
	}()
	packet = letters.Read(text)
	wire.Unpack(packet)
	return packet, api.OK
}

// New makes a listener (P6).
func New() *Listener { return &Listener{objects: heard.Objects{}} }

// Hear some packets (P6).
func (l *Listener) Hear(packets ...[]byte) (count int, e api.Errno) {
	// What was counted ahead of the error is answered beside it.
	defer func() {
		if r := recover(); r != nil {
			e = fault.Errno(r)
		}
	}()
	for _, packet := range packets {
		if l.objects.Add(wire.Unpack(packet)) {
			count++
		}
	}
	return count, api.OK
}

// Read some packets' texts (P7).
func (l *Listener) Read(text string) (int, int, api.Errno) {
	count := 0
	for number, line := range strings.Split(text, "\n") {
		if strings.Trim(line, " ") == "" {
			continue
		}
		more, e := l.readLine(line)
		count += more
		if e != api.OK {
			return count, number, e
		}
	}
	return count, 0, api.OK
}

func (l *Listener) readLine(line string) (int, api.Errno) {
	packet, e := Packet(line)
	if e != api.OK {
		return 0, e
	}
	return l.Hear(packet)
}

// Ids of objects that were heard of (P8).
func (l *Listener) Ids() []int { return l.objects.Ids() }

// Look tells how an object stands (P8).
func (l *Listener) Look(id int) (api.Look, api.Errno) {
	o := l.objects[id]
	if o == nil {
		return api.Look{}, api.ErrNone
	}
	return o.Look(), api.OK
}

// Object puts one together (P9).
func (l *Listener) Object(id int) ([]byte, api.Errno) {
	o := l.objects[id]
	if o == nil {
		return nil, api.ErrNone
	}
	filled, whole := mend.Blocks(o.Blocks, o.Plan.Spare)
	if !whole {
		return nil, api.ErrMore
	}
	return filled[:o.Length], api.OK
}

// Package wire lays packets out as bytes, and tells whether bytes are a packet.
package wire

import (
	"fascine/api"
	"fascine/cut"
	"fascine/fault"
)

const (
	mark     = 70
	headSize = 10
	maxId    = 65535
)

// Head is what a packet tells of its piece.
type Head struct {
	Id, Length   int
	Plan         api.Plan
	Block, Piece int
}

// IsId tells whether an object may be called so.
func IsId(id int) bool { return 0 <= id && id <= maxId }

// Pack makes a packet, in memory of its own, of a head whose numbers are all as they may be.
func Pack(h Head, piece []byte) []byte {
	packet := make([]byte, 0, headSize+len(piece))
	packet = append(packet, mark)
	packet = appendPair(packet, h.Id)
	packet = appendPair(packet, h.Length)
	packet = append(packet, byte(h.Plan.Size), byte(h.Plan.Most), byte(h.Plan.Spare))
	packet = append(packet, byte(h.Block), byte(h.Piece))
	return append(packet, piece...)
}

func appendPair(packet []byte, n int) []byte { return append(packet, byte(n>>8), byte(n)) }

// Unpack tells a packet's head and its piece, which still is the packet's own memory; it gives up with ErrPiece, if
// that is no packet.
func Unpack(packet []byte) (Head, []byte) {
	need(len(packet) > headSize && packet[0] == mark)
	h := readHead(packet)
	blocks, ok := cut.Blocks(h.Length, h.Plan)
	need(ok)
	need(h.Block < len(blocks))
	need(h.Piece < blocks[h.Block]+h.Plan.Spare)
	need(len(packet) == headSize+h.Plan.Size)
	return h, packet[headSize:]
}

func need(well bool) { fault.Unless(well, api.ErrPiece) }

func readHead(packet []byte) Head {
	return Head{
		Id:     pair(packet[1], packet[2]),
		Length: pair(packet[3], packet[4]),
		Plan:   api.Plan{Size: int(packet[5]), Most: int(packet[6]), Spare: int(packet[7])},
		Block:  int(packet[8]),
		Piece:  int(packet[9]),
	}
}

func pair(high, low byte) int { return int(high)<<8 | int(low) }

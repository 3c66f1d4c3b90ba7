// Package wire lays packets out as bytes.
package wire

import "fascine/api"

const (
	mark     = 70
	headSize = 10
	maxId    = 65535
)

// Head is what a packet tells of its piece.
type Head struct {
	Id, Length   int
	Plan         api.Plan
	Block, Piece int
}

// IsId tells whether an object may be called so.
func IsId(id int) bool { return 0 <= id && id <= maxId }

// Pack makes a packet, in memory of its own, of a head whose numbers are all as they may be.
func Pack(h Head, piece []byte) []byte {
	packet := make([]byte, 0, headSize+len(piece))
	packet = append(packet, mark)
	packet = appendPair(packet, h.Id)
	packet = appendPair(packet, h.Length)
	packet = append(packet, byte(h.Plan.Size), byte(h.Plan.Most), byte(h.Plan.Spare))
	packet = append(packet, byte(h.Block), byte(h.Piece))
	return append(packet, piece...)
}

func appendPair(packet []byte, n int) []byte { return append(packet, byte(n>>8), byte(n)) }

package fascine_test

import (
	"bytes"
	"math"
	"testing"

	"fascine/api"
	"fascine/fascine"
)

// plans, each of whose numbers is at its least, at its most and between.
var plans = []api.Plan{
	{Size: 1, Most: 20, Spare: 0}, {Size: 1, Most: 20, Spare: 20}, {Size: 16, Most: 1, Spare: 0},
	{Size: 16, Most: 1, Spare: 20}, {Size: 16, Most: 20, Spare: 0}, {Size: 16, Most: 20, Spare: 20},
	{Size: 4, Most: 3, Spare: 2}, {Size: 5, Most: 7, Spare: 1}, {Size: 3, Most: 19, Spare: 19},
}

// some bytes, different ones for each seed, 0 and 255 among them.
func some(length, seed int) []byte {
	object := make([]byte, length)
	for i := range object {
		object[i] = byte(i*i*7 + i*(seed+3) + seed*91 + 255)
	}
	return object
}

// spareByte at one place of the spare piece j of a block, whose own pieces have these bytes there.
func spareByte(own []byte, j int) byte {
	sum := 0
	for i, b := range own {
		sum ^= product(int(b), inverse((255-j)^i))
	}
	return byte(sum)
}

// expected packets, written down byte by byte after the document.
func expected(id int, object []byte, p api.Plan) [][]byte {
	byteAt := func(at int) byte {
		if at < len(object) {
			return object[at]
		}
		return 0
	}
	var packets [][]byte
	first := 0
	for z, count := range dealt(len(object), p) {
		for n := range count + p.Spare {
			q := []byte{70, byte(id / 256), byte(id % 256), byte(len(object) / 256), byte(len(object) % 256)}
			q = append(q, byte(p.Size), byte(p.Most), byte(p.Spare), byte(z), byte(n))
			for at := range p.Size {
				var own []byte
				for i := range count {
					own = append(own, byteAt((first+i)*p.Size+at))
				}
				if n < count {
					q = append(q, own[n])
				} else {
					q = append(q, spareByte(own, n-count))
				}
			}
			packets = append(packets, q)
		}
		first += count
	}
	return packets
}

func checkPackets(t *testing.T, id int, object []byte, p api.Plan, want [][]byte) {
	t.Helper()
	got, e := fascine.Packets(id, object, p)
	if e != api.OK || len(got) != len(want) {
		t.Errorf("P4: Packets(%d, %d bytes, %+v): %d packets, %d, want %d", id, len(object), p, len(got), e, len(want))
		return
	}
	for i := range want {
		if !bytes.Equal(got[i], want[i]) {
			t.Errorf("P4: Packets(%d, %d bytes, %+v): packet %d is %v, want %v", id, len(object), p, i, got[i], want[i])
			return
		}
	}
}

func TestP4PacketsExample(t *testing.T) {
	checkPackets(t, 5, []byte("ab"), api.Plan{Size: 2, Most: 1, Spare: 1}, [][]byte{
		{70, 0, 5, 0, 2, 2, 1, 1, 0, 0, 97, 98},
		{70, 0, 5, 0, 2, 2, 1, 1, 0, 1, 154, 128},
	})
}

func TestP4PacketsOfNothing(t *testing.T) {
	for _, object := range [][]byte{nil, {}} {
		checkPackets(t, 0, object, api.Plan{Size: 3, Most: 2, Spare: 1}, [][]byte{
			{70, 0, 0, 0, 0, 3, 2, 1, 0, 0, 0, 0, 0},
			{70, 0, 0, 0, 0, 3, 2, 1, 0, 1, 0, 0, 0},
		})
	}
}

func TestP4PacketsFilledUp(t *testing.T) {
	checkPackets(t, 258, []byte{9, 8, 7, 6}, api.Plan{Size: 3, Most: 1, Spare: 0}, [][]byte{
		{70, 1, 2, 0, 4, 3, 1, 0, 0, 0, 9, 8, 7},
		{70, 1, 2, 0, 4, 3, 1, 0, 1, 0, 6, 0, 0},
	})
	// What stands behind the object's end is no part of it.
	checkPackets(t, 258, []byte{9, 8, 7, 6, 5, 4}[:4], api.Plan{Size: 3, Most: 1, Spare: 0}, [][]byte{
		{70, 1, 2, 0, 4, 3, 1, 0, 0, 0, 9, 8, 7},
		{70, 1, 2, 0, 4, 3, 1, 0, 1, 0, 6, 0, 0},
	})
}

func TestP4PacketsTwoSizesOfBlocks(t *testing.T) {
	checkPackets(t, 1, []byte{1, 2, 3, 4, 5}, api.Plan{Size: 1, Most: 3, Spare: 0}, [][]byte{
		{70, 0, 1, 0, 5, 1, 3, 0, 0, 0, 1},
		{70, 0, 1, 0, 5, 1, 3, 0, 0, 1, 2},
		{70, 0, 1, 0, 5, 1, 3, 0, 0, 2, 3},
		{70, 0, 1, 0, 5, 1, 3, 0, 1, 0, 4},
		{70, 0, 1, 0, 5, 1, 3, 0, 1, 1, 5},
	})
}

func TestP4PacketsOfAllKinds(t *testing.T) {
	for _, p := range plans {
		for _, length := range []int{0, 1, 2, 15, 16, 17, 30, 255, 256, 257, 511, 1999, 2000} {
			if len(dealt(length, p)) > 256 {
				continue
			}
			object := some(length, p.Size+p.Spare)
			checkPackets(t, 65535-length, object, p, expected(65535-length, object, p))
		}
	}
}

func TestP4PacketsIds(t *testing.T) {
	p := api.Plan{Size: 4, Most: 3, Spare: 2}
	for _, id := range []int{0, 1, 255, 256, 0x1234, 65534, 65535} {
		checkPackets(t, id, some(30, id), p, expected(id, some(30, id), p))
	}
	for _, id := range []int{-1, 65536, 65537, -65535, 1 << 32, math.MaxInt, math.MinInt} {
		if got, e := fascine.Packets(id, some(30, 1), p); len(got) != 0 || e != api.ErrArg {
			t.Errorf("P4: Packets(%d, ..): %d packets, %d", id, len(got), e)
		}
	}
}

func TestP4PacketsWrong(t *testing.T) {
	for _, p := range plans {
		for _, length := range []int{2001, 2002, 65536} {
			if got, e := fascine.Packets(1, make([]byte, length), p); len(got) != 0 || e != api.ErrArg {
				t.Errorf("P4: Packets of %d bytes, %+v: %d packets, %d", length, p, len(got), e)
			}
		}
	}
	for _, p := range noPlans {
		for _, length := range []int{0, 1, 2000, 2001} {
			if got, e := fascine.Packets(1, make([]byte, length), p); len(got) != 0 || e != api.ErrArg {
				t.Errorf("P4: Packets of %d bytes, %+v: %d packets, %d", length, p, len(got), e)
			}
		}
	}
}

func TestP11PiecesAddUp(t *testing.T) {
	for _, p := range plans {
		for _, length := range []int{0, 1, 31, 257, 2000} {
			one, two := some(length, 1), some(length, 2)
			both := make([]byte, length)
			for i := range both {
				both[i] = one[i] ^ two[i]
			}
			if len(dealt(length, p)) > 256 {
				continue
			}
			checkSums(t, p, one, two, both)
		}
	}
}

func checkSums(t *testing.T, p api.Plan, one, two, both []byte) {
	t.Helper()
	a, e := fascine.Packets(3, one, p)
	b, f := fascine.Packets(3, two, p)
	c, g := fascine.Packets(3, both, p)
	if e != api.OK || f != api.OK || g != api.OK || len(a) == 0 || len(a) != len(b) || len(a) != len(c) {
		t.Fatalf("P11: %d bytes, %+v: %d, %d and %d packets, %d, %d, %d", len(one), p, len(a), len(b), len(c), e, f, g)
	}
	for i := range c {
		if !bytes.Equal(c[i][:10], a[i][:10]) || !bytes.Equal(c[i][:10], b[i][:10]) {
			t.Fatalf("P11: %d bytes, %+v: packet %d has another head", len(one), p, i)
		}
		for k := 10; k < len(c[i]); k++ {
			if a[i][k]^b[i][k] != c[i][k] {
				t.Fatalf("P11: %d bytes, %+v: packet %d: %v and %v, not %v", len(one), p, i, a[i], b[i], c[i])
			}
		}
	}
}

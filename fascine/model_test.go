package fascine_test

import (
	"bytes"
	"math/rand/v2"
	"strings"
	"testing"

	"fascine/api"
	"fascine/fascine"
)

// model of a listener: all packets that were heard, gone through one by one.
type model [][]byte

func (m model) hear(packet []byte) (model, int, api.Errno) {
	if !isPacket(packet) {
		return m, 0, api.ErrPiece
	}
	ids := map[string]int{}
	for _, known := range m {
		ids[string(known[1:3])]++
		switch {
		case bytes.Equal(known, packet):
			return m, 0, api.OK
		case !bytes.Equal(known[1:3], packet[1:3]):
		case !bytes.Equal(known[3:8], packet[3:8]), bytes.Equal(known[8:10], packet[8:10]):
			return m, 0, api.ErrOther
		}
	}
	if len(ids) == 8 && ids[string(packet[1:3])] == 0 {
		return m, 0, api.ErrFull
	}
	return append(m, packet), 1, api.OK
}

func (m model) hearAll(packets [][]byte) (after model, count, line int, e api.Errno) {
	for i, packet := range packets {
		more := 0
		m, more, e = m.hear(packet)
		count += more
		if e != api.OK {
			return m, count, i, e
		}
	}
	return m, count, 0, api.OK
}

// anyPacket of few Ids, lengths and plans, so that many are heard again, of others, or with other bytes; some are none.
func anyPacket(random *rand.Rand) []byte {
	p := api.Plan{Size: 1 + random.IntN(2), Most: 1 + random.IntN(40)/39, Spare: random.IntN(40) / 38}
	length := 4 + random.IntN(40)/39
	packets := expected(random.IntN(9)*251, some(length, random.IntN(30)/29), p)
	packet := packets[random.IntN(len(packets))]
	if random.IntN(40) == 0 {
		packet[random.IntN(10)] += byte(random.IntN(3))
	}
	return packet[:len(packet)-random.IntN(60)/59]
}

// checkModel: the Ids, and what was heard of each.
func checkModel(t *testing.T, l *fascine.Listener, m model) {
	t.Helper()
	heard := map[int]int{}
	for _, packet := range m {
		heard[int(packet[1])*256+int(packet[2])]++
	}
	checkHeard(t, l, heard)
}

// A model of the document, and two listeners, one of which hears what the other one reads.
func TestP6P7P12Model(t *testing.T) {
	random := rand.New(rand.NewPCG(5, 6))
	told := map[api.Errno]int{}
	for range 300 {
		one, two, m := fascine.New(), fascine.New(), model(nil)
		for range 30 {
			packets := make([][]byte, random.IntN(4))
			for i := range packets {
				packets[i] = anyPacket(random)
			}
			after, want, line, e := m.hearAll(packets)
			m = after
			told[e]++
			checkHear(t, one, want, e, packets...)
			checkRead(t, two, strings.Join(textsOf(packets), "\n"), want, line, e)
			checkModel(t, one, m)
			checkSame(t, one, two)
		}
		if t.Failed() {
			return
		}
	}
	for _, e := range []api.Errno{api.OK, api.ErrPiece, api.ErrOther, api.ErrFull} {
		if told[e] < 50 {
			t.Errorf("the error %d came %d times only", e, told[e])
		}
	}
}

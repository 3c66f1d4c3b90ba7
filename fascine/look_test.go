package fascine_test

import (
	"slices"
	"testing"

	"fascine/api"
	"fascine/fascine"
)

func TestP8IdsAreSorted(t *testing.T) {
	ids := []int{5, 65535, 0, 300, 44, 256, 255, 7}
	for turn := range ids {
		l := fascine.New()
		for i := range ids {
			id := ids[(i*(1+2*(turn%4))+turn)%8]
			checkHear(t, l, 1, api.OK, expected(id, nil, small)[i%2])
			got := l.Ids()
			if len(got) != i+1 || !slices.IsSorted(got) || !slices.Contains(got, id) {
				t.Fatalf("P8: Ids = %v when %d of %v were heard of", got, i+1, ids)
			}
		}
		checkIds(t, l, 0, 5, 7, 44, 255, 256, 300, 65535)
	}
}

// The third block of 30 bytes is cut into 2 pieces, the others into 3.
func TestP8Look(t *testing.T) {
	l := fascine.New()
	packets := expected(6, some(30, 6), middle)
	for i, c := range []struct{ packet, whole int }{
		{10, 0}, {4, 0}, {13, 1}, {3, 1}, {11, 1}, {9, 1}, {0, 2}, {8, 2}, {1, 2}, {12, 2}, {7, 3}, {2, 3}, {5, 3}, {6, 3},
	} {
		checkHear(t, l, 1, api.OK, packets[c.packet])
		checkHear(t, l, 0, api.OK, packets[c.packet])
		checkLook(t, l, 6, api.Look{Length: 30, Plan: middle, Heard: i + 1, Blocks: 3, Whole: c.whole}, api.OK)
	}
}

func TestP8LookOfAllKinds(t *testing.T) {
	for _, p := range plans {
		for _, length := range []int{0, 1, 16, 17, 255, 2000} {
			blocks := dealt(length, p)
			if len(blocks) > 256 {
				continue
			}
			l := fascine.New()
			want := api.Look{Length: length, Plan: p, Blocks: len(blocks)}
			counts := make([]int, len(blocks))
			for _, packet := range expected(1, some(length, 1), p) {
				checkHear(t, l, 1, api.OK, packet)
				want.Heard++
				if counts[packet[8]]++; counts[packet[8]] == blocks[packet[8]] {
					want.Whole++
				}
				checkLook(t, l, 1, want, api.OK)
			}
		}
	}
}

// What is told of one object hangs on its own packets alone.
func TestP8LookOfSeveral(t *testing.T) {
	l := fascine.New()
	checkHear(t, l, 1, api.OK, expected(1, some(30, 1), middle)[0])
	checkHear(t, l, 2, api.OK, expected(2, some(2, 2), small)...)
	checkHear(t, l, 3, api.OK, expected(3, some(5, 3), api.Plan{Size: 1, Most: 2})[:3]...)
	for range 2 {
		checkLook(t, l, 1, api.Look{Length: 30, Plan: middle, Heard: 1, Blocks: 3}, api.OK)
		checkLook(t, l, 2, api.Look{Length: 2, Plan: small, Heard: 2, Blocks: 1, Whole: 1}, api.OK)
		checkLook(t, l, 3, api.Look{Length: 5, Plan: api.Plan{Size: 1, Most: 2}, Heard: 3, Blocks: 3, Whole: 1}, api.OK)
		checkLook(t, l, 4, api.Look{}, api.ErrNone)
		checkLook(t, l, 0, api.Look{}, api.ErrNone)
		checkIds(t, l, 1, 2, 3)
	}
}

func TestP8P9NotHeardOf(t *testing.T) {
	l := fascine.New()
	checkHear(t, l, 1, api.OK, expected(0, nil, small)[0])
	checkHear(t, l, 1, api.OK, expected(65535, nil, small)[0])
	for _, id := range numbers {
		if id != 0 && id != 65535 {
			checkLook(t, l, id, api.Look{}, api.ErrNone)
			checkObject(t, l, id, nil, api.ErrNone)
		}
	}
	checkIds(t, l, 0, 65535)
}

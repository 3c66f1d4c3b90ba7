package fascine_test

import (
	"math"
	"slices"
	"testing"

	"fascine/api"
	"fascine/fascine"
)

// noPlans are plans with one number, or more, that may not be.
var noPlans = []api.Plan{
	{},
	{Size: 0, Most: 1, Spare: 0}, {Size: 17, Most: 1, Spare: 0}, {Size: -1, Most: 1, Spare: 0},
	{Size: 1, Most: 0, Spare: 0}, {Size: 1, Most: 21, Spare: 0}, {Size: 1, Most: -1, Spare: 0},
	{Size: 1, Most: 1, Spare: -1}, {Size: 1, Most: 1, Spare: 21},
	{Size: 16, Most: 20, Spare: 21}, {Size: 16, Most: 21, Spare: 20}, {Size: 17, Most: 20, Spare: 20},
	{Size: 257, Most: 1, Spare: 0}, {Size: 1, Most: 257, Spare: 0}, {Size: 1, Most: 1, Spare: 256},
	{Size: math.MaxInt, Most: 1, Spare: 0}, {Size: math.MinInt, Most: 1, Spare: 0},
	{Size: 1, Most: math.MaxInt, Spare: 0}, {Size: 1, Most: math.MinInt, Spare: 0},
	{Size: 1, Most: 1, Spare: math.MaxInt}, {Size: 1, Most: 1, Spare: math.MinInt},
	{Size: math.MinInt, Most: math.MinInt, Spare: math.MinInt}, {Size: math.MaxInt, Most: math.MaxInt, Spare: math.MaxInt},
}

// noLengths are lengths that no object has.
var noLengths = []int{-1, 2001, 2002, -2000, 65536, 1 << 32, math.MaxInt, math.MinInt}

// dealt reckons otherwise than the program: the pieces are dealt to the blocks in turns.
func dealt(length int, p api.Plan) []int {
	pieces := 1
	for pieces*p.Size < length {
		pieces++
	}
	count := 1
	for count*p.Most < pieces {
		count++
	}
	blocks := make([]int, count)
	for n := range pieces {
		blocks[n%count]++
	}
	return blocks
}

func TestP4BlocksExamples(t *testing.T) {
	for _, c := range []struct {
		length int
		plan   api.Plan
		want   []int
	}{
		{30, api.Plan{Size: 4, Most: 3, Spare: 2}, []int{3, 3, 2}},
		{0, api.Plan{Size: 4, Most: 3, Spare: 2}, []int{1}},
		{1, api.Plan{Size: 4, Most: 3, Spare: 2}, []int{1}},
		{4, api.Plan{Size: 4, Most: 3, Spare: 2}, []int{1}},
		{5, api.Plan{Size: 4, Most: 3, Spare: 2}, []int{2}},
		{12, api.Plan{Size: 4, Most: 3, Spare: 2}, []int{3}},
		{13, api.Plan{Size: 4, Most: 3, Spare: 2}, []int{2, 2}},
		{0, api.Plan{Size: 1, Most: 1}, []int{1}},
		{0, api.Plan{Size: 16, Most: 20, Spare: 20}, []int{1}},
		{2000, api.Plan{Size: 16, Most: 20, Spare: 20}, []int{18, 18, 18, 18, 18, 18, 17}},
		{21, api.Plan{Size: 1, Most: 20}, []int{11, 10}},
		{3, api.Plan{Size: 1, Most: 1, Spare: 20}, []int{1, 1, 1}},
	} {
		if got, e := fascine.Blocks(c.length, c.plan); !slices.Equal(got, c.want) || e != api.OK {
			t.Errorf("P4: Blocks(%d, %+v) = %v, %d, want %v", c.length, c.plan, got, e, c.want)
		}
	}
}

func TestP4BlocksOfAllLengths(t *testing.T) {
	for _, size := range []int{1, 2, 3, 7, 15, 16} {
		for _, most := range []int{1, 2, 3, 8, 19, 20} {
			for length := range 2001 {
				p := api.Plan{Size: size, Most: most, Spare: length % 21}
				want, wantErr := dealt(length, p), api.OK
				if len(want) > 256 {
					want, wantErr = nil, api.ErrArg
				}
				if got, e := fascine.Blocks(length, p); !slices.Equal(got, want) || e != wantErr {
					t.Fatalf("P4: Blocks(%d, %+v) = %v, %d, want %v", length, p, got, e, want)
				}
			}
		}
	}
}

func TestP4TooManyBlocks(t *testing.T) {
	for _, c := range []struct {
		length int
		plan   api.Plan
		blocks int
	}{
		{256, api.Plan{Size: 1, Most: 1}, 256}, {257, api.Plan{Size: 1, Most: 1}, 0},
		{512, api.Plan{Size: 2, Most: 1}, 256}, {513, api.Plan{Size: 2, Most: 1}, 0},
		{1792, api.Plan{Size: 1, Most: 7}, 256}, {1793, api.Plan{Size: 1, Most: 7}, 0},
		{2000, api.Plan{Size: 8, Most: 1}, 250}, {2000, api.Plan{Size: 7, Most: 1}, 0},
		{2000, api.Plan{Size: 1, Most: 1, Spare: 20}, 0},
	} {
		want := api.OK
		if c.blocks == 0 {
			want = api.ErrArg
		}
		if got, e := fascine.Blocks(c.length, c.plan); len(got) != c.blocks || e != want {
			t.Errorf("P4: Blocks(%d, %+v): %d blocks, %d", c.length, c.plan, len(got), e)
		}
		got, e := fascine.Packets(1, make([]byte, c.length), c.plan)
		if e != want || want != api.OK && len(got) != 0 || want == api.OK && int(got[len(got)-1][8]) != c.blocks-1 {
			t.Errorf("P4: Packets of %d bytes, %+v: %d packets, %d", c.length, c.plan, len(got), e)
		}
	}
}

func TestP4BlocksWrong(t *testing.T) {
	wide := api.Plan{Size: 16, Most: 20, Spare: 20}
	for _, length := range noLengths {
		for _, p := range append([]api.Plan{wide}, noPlans...) {
			if got, e := fascine.Blocks(length, p); len(got) != 0 || e != api.ErrArg {
				t.Errorf("P4: Blocks(%d, %+v) = %v, %d", length, p, got, e)
			}
		}
	}
	for _, p := range noPlans {
		for _, length := range []int{0, 1, 2000} {
			if got, e := fascine.Blocks(length, p); len(got) != 0 || e != api.ErrArg {
				t.Errorf("P4: Blocks(%d, %+v) = %v, %d", length, p, got, e)
			}
		}
	}
}

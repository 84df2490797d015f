package tests

import (
	"slices"
	"testing"

	"loop.example/s0019/impl"
)

func TestRulesLeaveArgumentsAlone(t *testing.T) {
	nets := []impl.Net{sampleNet(), {}, ruledNet(t)}
	for _, c := range brokenNets() {
		nets = append(nets, c.net)
	}
	for _, n := range nets {
		before := copyNet(n)
		walk := []int64{0, 1, 3, 5, -1, 99}
		impl.BuildRoad(n)
		impl.Resolve(n)
		impl.Judge(n, walk)
		impl.Judge(n, walk[:4])
		if !sameNet(n, before) {
			t.Errorf("%+v was changed", before)
		}
		if !slices.Equal(walk, []int64{0, 1, 3, 5, -1, 99}) {
			t.Errorf("the walk was changed to %v", walk)
		}
	}
}

// ruledNet has rules with and without via ways, and drops.
func ruledNet(t *testing.T) impl.Net {
	return netOf(t, 9, slices.Concat(streets, []string{
		"no 1 1 at 2 2", "only 2 1 at 2 2", "no 3 1 by 2 3", "no 4 1 by 2 3", "only 5 6 at 7 6", "no 6 2 at 3 2", "only 7 1 by 2 2 2 2 5",
	})...)
}

func roadLists(r *impl.Road) []*[]int64 {
	return []*[]int64{&r.Nodes, &r.First, &r.Out}
}

func ruleLists(r *impl.Resolution) []*[]int64 {
	var lists []*[]int64
	for i := range r.Rules {
		lists = append(lists, &r.Rules[i].Seq)
	}
	return lists
}

func TestRoadIsNewMemory(t *testing.T) {
	n := ruledNet(t)
	before, want := copyNet(n), refRoad(n)
	for k := range roadLists(&want) {
		r := impl.BuildRoad(n)
		spoil(*roadLists(&r)[k])
		for i, list := range roadLists(&r) {
			if i != k && !slices.Equal(*list, *roadLists(&want)[i]) {
				t.Errorf("list %d changed with list %d", i, k)
			}
		}
		clear(r.Edges)
		if !sameNet(n, before) {
			t.Fatal("the network hangs on the road's memory")
		}
		wantRoad(t, "again", n, want)
	}
	r := impl.BuildRoad(n)
	for _, list := range listsOf(&n) {
		spoil(*list)
	}
	if !sameRoad(r, refRoad(before)) {
		t.Error("the road hangs on the network's memory")
	}
}

func TestRulesAreNewMemory(t *testing.T) {
	n := ruledNet(t)
	before, want := copyNet(n), refResolve(n)
	for k := range ruleLists(&want) {
		r := impl.Resolve(n)
		spoil(*ruleLists(&r)[k])
		for i, list := range ruleLists(&r) {
			if i != k && !slices.Equal(*list, *ruleLists(&want)[i]) {
				t.Errorf("sequence %d changed with sequence %d", i, k)
			}
		}
		clear(r.Drops)
		clear(r.Rules)
		if !sameNet(n, before) {
			t.Fatal("the network hangs on the rules' memory")
		}
		if again := impl.Resolve(n); !sameResolution(again, want) {
			t.Fatalf("a later answer is %s", shown(again))
		}
	}
	r := impl.Resolve(n)
	for _, list := range listsOf(&n) {
		spoil(*list)
	}
	if !sameResolution(r, refResolve(before)) {
		t.Error("the rules hang on the network's memory")
	}
}

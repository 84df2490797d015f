package tests

import (
	"slices"
	"testing"

	"loop.example/s0019/impl"
)

func TestGraphsLeaveArgumentsAlone(t *testing.T) {
	nets := []impl.Net{sampleNet(), {}, ruledNet(t), tangle(201, 1, false), wheel(400, 400, 400, 400, 400)}
	for _, c := range brokenNets() {
		nets = append(nets, c.net)
	}
	for _, n := range nets {
		before := copyNet(n)
		impl.Compile(n)
		if !sameNet(n, before) {
			t.Error("a network was changed")
		}
	}
	wrong := smallGraph()
	wrong.First[2], wrong.To[1] = 9, -1
	for _, g := range []impl.Graph{smallGraph(), compiled(t, ruledNet(t)), {}, {First: []int64{0}}, wrong} {
		before := copyGraph(g)
		for _, list := range [][]int64{{1, 1, 3, 9}, {0, 1, 0}, {1, 3, 1}, {-1}, {0}} {
			old := slices.Clone(list)
			impl.ValidGraph(g)
			impl.LiftWalk(g, list)
			impl.PathEdges(g, list)
			impl.PathCost(g, list)
			if !slices.Equal(list, old) {
				t.Errorf("%v was changed to %v", old, list)
			}
		}
		if !sameGraph(g, before) {
			t.Error("a graph was changed")
		}
	}
}

func TestGraphIsNewMemory(t *testing.T) {
	n := ruledNet(t)
	before, want := copyNet(n), refCompile(n)
	for k := range graphLists(&want) {
		g := compiled(t, n)
		if len(*graphLists(&g)[k]) == 0 {
			t.Fatalf("%s is empty", graphListNames[k])
		}
		spoil(*graphLists(&g)[k])
		for i, list := range graphLists(&g) {
			if i != k && !slices.Equal(*list, *graphLists(&want)[i]) {
				t.Errorf("%s changed with %s", graphListNames[i], graphListNames[k])
			}
		}
		if !sameNet(n, before) {
			t.Fatal("the network hangs on the graph's memory")
		}
		if again := compiled(t, n); !sameGraph(again, want) {
			t.Fatalf("a later answer is\n%s", drawn(again))
		}
	}
	g := compiled(t, n)
	for _, list := range listsOf(&n) {
		spoil(*list)
	}
	if !sameGraph(g, want) {
		t.Error("the graph hangs on the network's memory")
	}
}

func TestPathsAreNewMemory(t *testing.T) {
	g := smallGraph()
	before := copyGraph(g)
	// One vertex or edge alone must not be a piece of the argument either.
	for _, c := range []struct{ walk, path []int64 }{{[]int64{0, 1, 0}, []int64{1, 3, 1}}, {[]int64{1}, []int64{2}}} {
		walk, path := slices.Clone(c.walk), slices.Clone(c.path)
		lifted, edges := impl.LiftWalk(g, walk), impl.PathEdges(g, path)
		spoil(lifted)
		spoil(edges)
		if !slices.Equal(walk, c.walk) || !slices.Equal(path, c.path) || !sameGraph(g, before) {
			t.Fatal("an argument hangs on an answer's memory")
		}
		wantLift(t, "again", g, walk, c.path)
		wantPath(t, "again", g, path, c.walk, refPathCost(g, c.path))
		lifted, edges = impl.LiftWalk(g, walk), impl.PathEdges(g, path)
		spoil(walk)
		spoil(path)
		spoiled := copyGraph(g)
		for _, list := range graphLists(&g) {
			spoil(*list)
		}
		if !slices.Equal(lifted, c.path) || !slices.Equal(edges, c.walk) {
			t.Error("an answer hangs on an argument's memory")
		}
		g = spoiled
	}
}

// An answer must not be remembered from a graph that has changed since.
func TestGraphIsAskedAnew(t *testing.T) {
	g := smallGraph()
	wantPath(t, "as it was", g, []int64{1, 3}, []int64{0, 1}, 14)
	g.Cost[3] = 100
	wantPath(t, "another cost", g, []int64{1, 3}, []int64{0, 1}, 110)
	g.To[3] = 2
	wantPath(t, "another vertex", g, []int64{1, 3}, nil, -1)
	wantLift(t, "another vertex", g, []int64{0, 1}, []int64{1, 2})
	g.Weight[1] = -1
	wantLift(t, "no longer valid", g, []int64{0, 1}, nil)
	g.Weight[1] = 0
	wantLift(t, "valid again", g, []int64{0, 1}, []int64{1, 2})
}

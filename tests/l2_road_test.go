package tests

import (
	"slices"
	"testing"
	"time"

	"loop.example/s0019/impl"
)

func wantRoad(t *testing.T, name string, n impl.Net, want impl.Road) {
	t.Helper()
	got := impl.BuildRoad(n)
	if !sameRoad(got, want) {
		t.Errorf("%s:\n%+v, want\n%+v", name, got, want)
	}
}

func TestRoadOfNothing(t *testing.T) {
	for _, n := range []impl.Net{{}, {UTurn: impl.MaxNumber}, {Nodes: []int64{}, Ways: []impl.Way{}}} {
		wantRoad(t, "empty", n, impl.Road{First: []int64{0}})
	}
	wantRoad(t, "nodes alone", impl.Net{Nodes: []int64{4, 9}}, impl.Road{Nodes: []int64{4, 9}, First: []int64{0, 0, 0}})
}

func TestRoadOfInvalid(t *testing.T) {
	for _, c := range brokenNets() {
		wantRoad(t, c.rule, c.net, impl.Road{})
	}
	for name, pair := range limits() {
		wantRoad(t, name, pair[1], impl.Road{})
	}
}

// Ids, positions, indexes and edge numbers all differ here, so that none can stand for another.
func TestRoadFields(t *testing.T) {
	n := impl.Net{
		Nodes: []int64{10, 20, 30, 40},
		Ways: []impl.Way{
			{ID: 3, Nodes: []int64{40, 20, 30, 10}, Weights: []int64{5, 0, impl.MaxNumber}},
			{ID: 7, Both: true, Nodes: []int64{30, 20, 40}, Weights: []int64{8, 9}},
			{ID: 9, Nodes: []int64{20, 10}, Weights: []int64{1}},
		},
	}
	wantRoad(t, "one-way and two-way", n, impl.Road{
		Nodes: []int64{10, 20, 30, 40},
		Edges: []impl.Edge{
			{Tail: 3, Head: 1, Weight: 5, Way: 0, Seg: 0, Twin: -1},
			{Tail: 1, Head: 2, Weight: 0, Way: 0, Seg: 1, Twin: -1},
			{Tail: 2, Head: 0, Weight: impl.MaxNumber, Way: 0, Seg: 2, Twin: -1},
			{Tail: 2, Head: 1, Weight: 8, Way: 1, Seg: 0, Twin: 4},
			{Tail: 1, Head: 2, Weight: 8, Way: 1, Seg: 0, Back: true, Twin: 3},
			{Tail: 1, Head: 3, Weight: 9, Way: 1, Seg: 1, Twin: 6},
			{Tail: 3, Head: 1, Weight: 9, Way: 1, Seg: 1, Back: true, Twin: 5},
			{Tail: 1, Head: 0, Weight: 1, Way: 2, Seg: 0, Twin: -1},
		},
		First: []int64{0, 0, 4, 6, 8},
		Out:   []int64{1, 4, 5, 7, 2, 3, 0, 6},
	})
}

func TestRoadTwiceAtOneNode(t *testing.T) {
	n := impl.Net{
		Nodes: []int64{1, 2},
		Ways: []impl.Way{
			{ID: 1, Nodes: []int64{2, 1, 2, 1}, Weights: []int64{1, 2, 3}},
			{ID: 2, Nodes: []int64{2, 2}, Weights: []int64{4}},
			{ID: 3, Both: true, Nodes: []int64{1, 1, 1}, Weights: []int64{5, 6}},
		},
	}
	wantRoad(t, "loops", n, impl.Road{
		Nodes: []int64{1, 2},
		Edges: []impl.Edge{
			{Tail: 1, Head: 0, Weight: 1, Way: 0, Seg: 0, Twin: -1},
			{Tail: 0, Head: 1, Weight: 2, Way: 0, Seg: 1, Twin: -1},
			{Tail: 1, Head: 0, Weight: 3, Way: 0, Seg: 2, Twin: -1},
			{Tail: 1, Head: 1, Weight: 4, Way: 1, Seg: 0, Twin: -1},
			{Tail: 0, Head: 0, Weight: 5, Way: 2, Seg: 0, Twin: 5},
			{Tail: 0, Head: 0, Weight: 5, Way: 2, Seg: 0, Back: true, Twin: 4},
			{Tail: 0, Head: 0, Weight: 6, Way: 2, Seg: 1, Twin: 7},
			{Tail: 0, Head: 0, Weight: 6, Way: 2, Seg: 1, Back: true, Twin: 6},
		},
		First: []int64{0, 5, 8},
		Out:   []int64{1, 4, 5, 6, 7, 0, 2, 3},
	})
}

func TestRoadNodesWithoutEdges(t *testing.T) {
	n := impl.Net{
		Nodes: []int64{1, 2, 3, 4, 5, 6},
		Ways:  []impl.Way{{ID: 0, Both: true, Nodes: []int64{5, 3}, Weights: []int64{1}}, {ID: 1, Nodes: []int64{3, 6}, Weights: []int64{1}}},
	}
	r := impl.BuildRoad(n)
	if !slices.Equal(r.First, []int64{0, 0, 0, 2, 2, 3, 3}) || !slices.Equal(r.Out, []int64{1, 2, 0}) {
		t.Errorf("%v %v", r.First, r.Out)
	}
}

func TestRoadLargest(t *testing.T) {
	n := grownNet(size{nodes: impl.MaxNodes, ways: impl.MaxWays, segs: 1, both: true})
	for i := range n.Ways {
		n.Ways[i].Nodes[0] = n.Nodes[(i*7)%impl.MaxNodes]
		n.Ways[i].Nodes[1] = n.Nodes[(i*i)%impl.MaxNodes]
	}
	nets := map[string]impl.Net{"nodes, ways and edges": n}
	for name, pair := range limits() {
		nets[name] = pair[0]
	}
	for name, n := range nets {
		within(t, time.Minute, func() { wantRoad(t, name, n, refRoad(n)) })
	}
	if got := impl.BuildRoad(n); len(got.Edges) != impl.MaxEdges || len(got.First) != impl.MaxNodes+1 || len(got.Out) != impl.MaxEdges {
		t.Errorf("%d edges, %d entries in First, %d in Out", len(got.Edges), len(got.First), len(got.Out))
	}
}

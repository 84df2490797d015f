package tests

import (
	"slices"
	"testing"

	"loop.example/s0019/impl"
)

func wantValidGraph(t *testing.T, name string, g impl.Graph, want bool) {
	t.Helper()
	if got := impl.ValidGraph(g); got != want {
		t.Errorf("%s: %v with %d edges, %d vertices and %d arcs", name, got, len(g.Start), len(g.EdgeOf), len(g.To))
	}
	if want {
		return
	}
	for _, list := range [][]int64{nil, {0}, {0, 0}, {0, 1}, {-1}} {
		if path := impl.LiftWalk(g, list); len(path) != 0 {
			t.Errorf("%s: not valid, and LiftWalk of %v is %v", name, list, path)
		}
		if edges, cost := impl.PathEdges(g, list), impl.PathCost(g, list); len(edges) != 0 || cost != -1 {
			t.Errorf("%s: not valid, and %v is a path with %v for %d", name, list, edges, cost)
		}
	}
}

func TestValidGraphSmallest(t *testing.T) {
	wantValidGraph(t, "the zero Graph", impl.Graph{}, false)
	wantValidGraph(t, "the smallest", impl.Graph{First: []int64{0}}, true)
	bare := impl.Graph{First: []int64{0}}
	for _, list := range graphLists(&bare) {
		*list = append([]int64{}, *list...)
	}
	wantValidGraph(t, "the smallest, with empty lists", bare, true)
	wantValidGraph(t, "First does not begin with 0", impl.Graph{First: []int64{1}}, false)
	wantValidGraph(t, "First begins with -1", impl.Graph{First: []int64{-1}}, false)
	wantValidGraph(t, "First of two entries without a vertex", impl.Graph{First: []int64{0, 0}}, false)
	wantValidGraph(t, "an arc without a vertex", impl.Graph{First: []int64{0}, To: []int64{0}, Cost: []int64{0}}, false)
	wantValidGraph(t, "an arc that First counts, without a vertex", impl.Graph{First: []int64{1}, To: []int64{0}, Cost: []int64{0}}, false)
	wantValidGraph(t, "an edge without a vertex", impl.Graph{First: []int64{0}, Start: []int64{0}, Weight: []int64{0}}, false)
	wantValidGraph(t, "an edge that starts at -1", impl.Graph{First: []int64{0}, Start: []int64{-1}, Weight: []int64{0}}, false)
	wantValidGraph(t, "a vertex without an edge", impl.Graph{EdgeOf: []int64{0}, StateOf: []int64{0}, First: []int64{0, 0}}, false)
	wantValidGraph(t, "one edge", blockGraph(1, 1, 0), true)
	wantValidGraph(t, "one edge and an arc", blockGraph(1, 1, 1), true)
}

// Two edges; edge 0 has the vertices 0 and 1, edge 1 the vertices 2 and 3. Each vertex has two arcs.
func smallGraph() impl.Graph {
	return impl.Graph{
		EdgeOf:  []int64{0, 0, 1, 1},
		StateOf: []int64{0, 3, 1, 2},
		First:   []int64{0, 2, 4, 6, 8},
		To:      []int64{0, 2, 1, 3, 0, 3, 1, 2},
		Cost:    []int64{1, 2, 3, 4, 5, 6, 7, 8},
		Start:   []int64{1, 2},
		Weight:  []int64{10, 20},
	}
}

func TestValidGraphRules(t *testing.T) {
	wantValidGraph(t, "as it is", smallGraph(), true)
	for _, c := range []struct {
		name string
		want bool
		do   func(*impl.Graph)
	}{
		{"a weight of 0", true, func(g *impl.Graph) { g.Weight[1] = 0 }},
		{"the greatest weight", true, func(g *impl.Graph) { g.Weight[1] = impl.MaxNumber }},
		{"a weight too great by one", false, func(g *impl.Graph) { g.Weight[1] = impl.MaxNumber + 1 }},
		{"the first weight -1", false, func(g *impl.Graph) { g.Weight[0] = -1 }},
		{"the last weight -1", false, func(g *impl.Graph) { g.Weight[1] = -1 }},
		{"a cost of 0", true, func(g *impl.Graph) { g.Cost[7] = 0 }},
		{"the greatest cost", true, func(g *impl.Graph) { g.Cost[7] = impl.MaxArcCost }},
		{"a cost too great by one", false, func(g *impl.Graph) { g.Cost[7] = impl.MaxArcCost + 1 }},
		{"the first cost -1", false, func(g *impl.Graph) { g.Cost[0] = -1 }},
		{"the last cost -1", false, func(g *impl.Graph) { g.Cost[7] = -1 }},
		{"the greatest state", true, func(g *impl.Graph) { g.StateOf[3] = impl.MaxStates - 1 }},
		{"a state too great by one", false, func(g *impl.Graph) { g.StateOf[3] = impl.MaxStates }},
		{"a state -1", false, func(g *impl.Graph) { g.StateOf[0] = -1 }},
		{"equal states of two edges", true, func(g *impl.Graph) { g.StateOf = []int64{1, 2, 1, 2} }},
		{"states that descend from edge to edge", true, func(g *impl.Graph) { g.StateOf = []int64{7, 8, 1, 2} }},
		{"equal pairs", false, func(g *impl.Graph) { g.StateOf[1] = 0 }},
		{"equal pairs at the end", false, func(g *impl.Graph) { g.StateOf[2] = 2 }},
		{"states of one edge that descend", false, func(g *impl.Graph) { g.StateOf[0] = 4 }},
		{"edges that descend", false, func(g *impl.Graph) { g.EdgeOf = []int64{1, 1, 0, 0}; g.Start = []int64{2, 0} }},
		{"edges that descend while the states ascend", false, func(g *impl.Graph) {
			g.EdgeOf, g.StateOf, g.Start = []int64{1, 1, 0, 0}, []int64{0, 1, 2, 3}, []int64{2, 0}
		}},
		{"an edge -1", false, func(g *impl.Graph) { g.EdgeOf[0] = -1 }},
		{"an edge past the last", false, func(g *impl.Graph) { g.EdgeOf[3] = 2 }},
		{"a start -1", false, func(g *impl.Graph) { g.Start[0] = -1 }},
		{"a start past the last vertex", false, func(g *impl.Graph) { g.Start[1] = 4 }},
		{"another start of the same edge", true, func(g *impl.Graph) { g.Start = []int64{0, 3} }},
		{"a start of another edge", false, func(g *impl.Graph) { g.Start[1] = 1 }},
		{"starts the wrong way round", false, func(g *impl.Graph) { g.Start = []int64{2, 1} }},
		{"First does not begin with 0", false, func(g *impl.Graph) { g.First[0] = 1 }},
		{"First begins with -1", false, func(g *impl.Graph) { g.First[0] = -1 }},
		{"First ends one too low", false, func(g *impl.Graph) { g.First[4] = 7 }},
		{"First ends one too high", false, func(g *impl.Graph) { g.First[4] = 9 }},
		{"First descends in the middle", false, func(g *impl.Graph) { g.First = []int64{0, 4, 2, 6, 8} }},
		{"First descends below 0 in the middle", false, func(g *impl.Graph) { g.First = []int64{0, 2, -2, 6, 8} }},
		{"First rises past the arcs in the middle", false, func(g *impl.Graph) { g.First = []int64{0, 2, 9, 6, 8} }},
		{"First with all arcs at the last vertex but two", false, func(g *impl.Graph) { g.First = []int64{0, 2, 2, 2, 8} }},
		{"First with a vertex that has no arc", true, func(g *impl.Graph) {
			g.First = []int64{0, 2, 2, 4, 6}
			g.To, g.Cost = g.To[:6], g.Cost[:6]
		}},
		{"an arc to -1", false, func(g *impl.Graph) { g.To[0] = -1 }},
		{"an arc past the last vertex", false, func(g *impl.Graph) { g.To[7] = 4 }},
		{"an arc to another vertex of the same edge", true, func(g *impl.Graph) { g.To[0] = 1 }},
		{"two arcs to one vertex", false, func(g *impl.Graph) { g.To[1] = 0 }},
		{"two arcs to two vertices of one edge", false, func(g *impl.Graph) { g.To[1] = 1 }},
		{"two arcs of the last vertex to one edge", false, func(g *impl.Graph) { g.To[6] = 3 }},
		{"arcs whose edges descend", false, func(g *impl.Graph) { g.To[0], g.To[1] = 2, 0 }},
		{"arcs of the last vertex whose edges descend", false, func(g *impl.Graph) { g.To[6], g.To[7] = 2, 1 }},
	} {
		g := smallGraph()
		c.do(&g)
		wantValidGraph(t, c.name, g, c.want)
		if refValidGraph(g) != c.want {
			t.Errorf("%s: the second reading says otherwise", c.name)
		}
	}
}

func TestValidGraphEachLength(t *testing.T) {
	for i, name := range graphListNames {
		for _, more := range []int64{-1, 0, 1, 2, 3, 8, 1999} {
			g := smallGraph()
			list := graphLists(&g)[i]
			*list = append(*list, more)
			wantValidGraph(t, name+" too long", g, false)
		}
		g := smallGraph()
		list := graphLists(&g)[i]
		*list = (*list)[:len(*list)-1]
		wantValidGraph(t, name+" too short", g, false)
		g = smallGraph()
		*graphLists(&g)[i] = nil
		wantValidGraph(t, name+" empty", g, false)
		g = impl.Graph{}
		*graphLists(&g)[i] = []int64{0}
		wantValidGraph(t, name+" alone", g, name == "First")
		*graphLists(&g)[i] = make([]int64, 1_000_000)
		wantValidGraph(t, name+" alone and long", g, false)
	}
}

func TestValidGraphLimits(t *testing.T) {
	for _, c := range []struct {
		name                  string
		edges, vertices, arcs int
		want                  bool
	}{
		{"MaxEdges edges", impl.MaxEdges, impl.MaxEdges, 0, true},
		{"one edge more", impl.MaxEdges + 1, impl.MaxEdges + 1, 0, false},
		{"MaxEdges + MaxStates vertices", impl.MaxEdges, impl.MaxEdges + impl.MaxStates, 0, true},
		{"one vertex more", impl.MaxEdges, impl.MaxEdges + impl.MaxStates + 1, 0, false},
		{"as many vertices of few edges", 3, 6000, 100, true},
		{"one more of few edges", 4, 6001, 100, false},
		{"MaxStates vertices of one edge", 1, impl.MaxStates, 0, true},
		{"one more of one edge", 1, impl.MaxStates + 1, 0, false},
		{"MaxArcs arcs", 100, 400, impl.MaxArcs, true},
		{"one arc more", 100, 401, impl.MaxArcs + 1, false},
		{"MaxArcs arcs at few vertices", impl.MaxEdges, impl.MaxEdges, impl.MaxArcs, true},
		{"one arc more at few vertices", impl.MaxEdges, impl.MaxEdges, impl.MaxArcs + 1, false},
		{"all at their most", impl.MaxEdges, impl.MaxEdges + impl.MaxStates, impl.MaxArcs, true},
	} {
		g := blockGraph(c.edges, c.vertices, c.arcs)
		if len(g.Start) != c.edges || len(g.EdgeOf) != c.vertices || len(g.To) != c.arcs {
			t.Fatalf("%s: %d edges, %d vertices, %d arcs", c.name, len(g.Start), len(g.EdgeOf), len(g.To))
		}
		wantValidGraph(t, c.name, g, c.want)
	}
	// The last entry of long lists counts as well.
	g := blockGraph(impl.MaxEdges, impl.MaxEdges+impl.MaxStates, impl.MaxArcs)
	for i, list := range graphLists(&g) {
		last := len(*list) - 1
		old := (*list)[last]
		(*list)[last] = -1
		wantValidGraph(t, graphListNames[i]+" ends with -1", g, false)
		(*list)[last] = old
	}
	wantValidGraph(t, "as it was", g, true)
	if !slices.Equal(g.Weight, make([]int64, impl.MaxEdges)) {
		t.Error("the weights were changed")
	}
}

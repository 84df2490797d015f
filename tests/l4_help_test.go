package tests

import (
	"fmt"
	"slices"
	"strings"
	"testing"

	"loop.example/s0019/impl"
)

var (
	_ func(impl.Net) impl.Compiled      = impl.Compile
	_ func(impl.Graph) bool             = impl.ValidGraph
	_ func(impl.Graph, []int64) []int64 = impl.LiftWalk
	_ func(impl.Graph, []int64) []int64 = impl.PathEdges
	_ func(impl.Graph, []int64) int64   = impl.PathCost
	_                                   = impl.Compiled{Code: int64(0), Graph: impl.Graph{}}
	_                                   = impl.Graph{EdgeOf: []int64{}, StateOf: []int64{}, First: []int64{}, To: []int64{}, Cost: []int64{}, Start: []int64{}, Weight: []int64{}}
)

// graphLists names the seven lists in the order of the type.
func graphLists(g *impl.Graph) []*[]int64 {
	return []*[]int64{&g.EdgeOf, &g.StateOf, &g.First, &g.To, &g.Cost, &g.Start, &g.Weight}
}

var graphListNames = []string{"EdgeOf", "StateOf", "First", "To", "Cost", "Start", "Weight"}

func sameGraph(a, b impl.Graph) bool {
	for i, list := range graphLists(&a) {
		if !slices.Equal(*list, *graphLists(&b)[i]) {
			return false
		}
	}
	return true
}

func copyGraph(g impl.Graph) impl.Graph {
	for _, list := range graphLists(&g) {
		*list = slices.Clone(*list)
	}
	return g
}

func compiled(t *testing.T, n impl.Net) impl.Graph {
	t.Helper()
	c := impl.Compile(n)
	if c.Code != 0 {
		t.Fatalf("%s: code %d", textOf(n), c.Code)
	}
	return c.Graph
}

func wantNoGraph(t *testing.T, name string, n impl.Net, code int64) {
	t.Helper()
	c := impl.Compile(n)
	if c.Code != code || !sameGraph(c.Graph, impl.Graph{}) {
		t.Errorf("%s: code %d with %d vertices and %d arcs, want code %d and the zero Graph", name, c.Code, len(c.Graph.EdgeOf), len(c.Graph.To), code)
	}
}

// drawn writes a valid graph in short: "*3/1: 4/0+7 5/2+9" is a vertex of edge 3 in state 1, a start, with its arcs and what they cost.
func drawn(g impl.Graph) string {
	var lines []string
	for v, edge := range g.EdgeOf {
		line := fmt.Sprintf("%d/%d:", edge, g.StateOf[v])
		if g.Start[edge] == int64(v) {
			line = "*" + line
		}
		for k := g.First[v]; k < g.First[v+1]; k++ {
			line += fmt.Sprintf(" %d/%d+%d", g.EdgeOf[g.To[k]], g.StateOf[g.To[k]], g.Cost[k])
		}
		lines = append(lines, line)
	}
	return strings.Join(lines, "\n")
}

// blockGraph shares the vertices out to the edges, the first of which get one more if they do not come out even. The first vertices
// have all the arcs, one to every edge for as long as there are any.
func blockGraph(edges, vertices, arcs int) impl.Graph {
	g := impl.Graph{First: []int64{0}, Weight: make([]int64, edges), Cost: make([]int64, arcs)}
	for e := range edges {
		g.Start = append(g.Start, int64(len(g.EdgeOf)))
		for state := int64(0); int(state)*edges+e < vertices; state++ {
			g.EdgeOf = append(g.EdgeOf, int64(e))
			g.StateOf = append(g.StateOf, state)
		}
	}
	for range g.EdgeOf {
		for e := 0; e < edges && len(g.To) < arcs; e++ {
			g.To = append(g.To, g.Start[e])
		}
		g.First = append(g.First, int64(len(g.To)))
	}
	return g
}

// loopGraph has one edge that can be driven again and again.
func loopGraph(weight, cost int64) impl.Graph {
	g := blockGraph(1, 1, 1)
	g.Weight[0], g.Cost[0] = weight, cost
	return g
}

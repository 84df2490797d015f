package tests

import (
	"fmt"
	"slices"
	"strconv"
	"strings"
	"testing"

	"loop.example/s0019/impl"
)

var (
	_ func(impl.Graph, int64, int64) impl.Route = impl.Shortest
	_ func([]byte) impl.Loaded                  = impl.Load
	_ func([]byte, int64, int64) impl.Route     = impl.Query
	_ func([]byte, []byte) []byte               = impl.Session
	_                                           = impl.Loaded{Code: int64(0), Line: int64(0), Graph: impl.Graph{}}
)

func sameRoute(a, b impl.Route) bool {
	return a.Code == b.Code && a.Cost == b.Cost && slices.Equal(a.Edges, b.Edges)
}

func found(cost int64, edges ...int64) impl.Route {
	return impl.Route{Cost: cost, Edges: edges}
}

func wantRoute(t *testing.T, name string, got, want impl.Route) {
	t.Helper()
	if !sameRoute(got, want) {
		t.Fatalf("%s: code %d, cost %d, %d edges %v, want code %d, cost %d, %d edges %v", name, got.Code, got.Cost, len(got.Edges),
			got.Edges[:min(len(got.Edges), 20)], want.Code, want.Cost, len(want.Edges), want.Edges[:min(len(want.Edges), 20)])
	}
}

// sketched reads what drawn writes. A state of 0 may be left out, and so may the star of an edge that starts at its first vertex.
// All weights are 1.
func sketched(t *testing.T, lines ...string) impl.Graph {
	t.Helper()
	g := impl.Graph{First: []int64{0}}
	numbers := map[[2]int64]int64{}
	for v, line := range lines {
		name, _, _ := strings.Cut(line, ":")
		pair := pairOf(t, strings.TrimPrefix(name, "*"))
		numbers[pair] = int64(v)
		g.EdgeOf = append(g.EdgeOf, pair[0])
		g.StateOf = append(g.StateOf, pair[1])
		if pair[0] == int64(len(g.Start)) {
			g.Start = append(g.Start, int64(v))
			g.Weight = append(g.Weight, 1)
		}
		if strings.HasPrefix(line, "*") {
			g.Start[pair[0]] = int64(v)
		}
	}
	for _, line := range lines {
		_, arcs, _ := strings.Cut(line, ":")
		for arc := range strings.FieldsSeq(arcs) {
			name, cost, _ := strings.Cut(arc, "+")
			g.To = append(g.To, numbers[pairOf(t, name)])
			g.Cost = append(g.Cost, numberIn(t, cost))
		}
		g.First = append(g.First, int64(len(g.To)))
	}
	if !refValidGraph(g) {
		t.Fatalf("%q is no valid graph", lines)
	}
	return g
}

func pairOf(t *testing.T, name string) [2]int64 {
	t.Helper()
	edge, state, ok := strings.Cut(name, "/")
	if !ok {
		state = "0"
	}
	return [2]int64{numberIn(t, edge), numberIn(t, state)}
}

func numberIn(t *testing.T, field string) int64 {
	t.Helper()
	number, err := strconv.ParseInt(field, 10, 64)
	if err != nil {
		t.Fatal(err)
	}
	return number
}

// nodeLines declares the nodes 1 to count.
func nodeLines(count int) string {
	var b strings.Builder
	for id := range count {
		fmt.Fprintf(&b, "node %d\n", id+1)
	}
	return b.String()
}

// onNodes is a text with the nodes 1 to count and the lines.
func onNodes(count int, lines ...string) string {
	return text(lines...) + nodeLines(count)
}

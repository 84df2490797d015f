package tests

import (
	"math"
	"slices"
	"testing"
	"time"

	"loop.example/s0019/impl"
)

func TestRouteConstants(t *testing.T) {
	got := []int{impl.MaxScript, impl.MaxQueries, impl.RouteFound, impl.RouteNone, impl.RouteBadQuery, impl.RouteNotLoaded}
	if want := []int{65536, 1000, 0, 1, 2, 3}; !slices.Equal(got, want) {
		t.Errorf("%v, want %v", got, want)
	}
}

type shortestCase struct {
	name  string
	lines []string
	s, t  int64
	want  impl.Route
}

func checkShortest(t *testing.T, cases []shortestCase) {
	t.Helper()
	for _, c := range cases {
		g := sketched(t, c.lines...)
		before := copyGraph(g)
		got := impl.Shortest(g, c.s, c.t)
		if !sameRoute(got, c.want) {
			t.Errorf("%s: %+v, want %+v", c.name, got, c.want)
		}
		if all := refAllPaths(g, c.s); !sameRoute(all[c.t], c.want) {
			t.Errorf("%s: the list of all paths says %+v", c.name, all[c.t])
		}
		if !sameGraph(g, before) {
			t.Errorf("%s: the graph was changed", c.name)
		}
	}
}

func TestShortestByCost(t *testing.T) {
	none := impl.Route{Code: impl.RouteNone}
	checkShortest(t, []shortestCase{
		{"one arc", []string{"0: 1+5", "1:"}, 0, 1, found(6, 0, 1)},
		{"against the arc", []string{"0: 1+5", "1:"}, 1, 0, none},
		{"no arc at all", []string{"0:", "1:"}, 0, 1, none},
		{"apart", []string{"0: 1+1", "1: 0+1", "2: 3+1", "3: 2+1"}, 0, 3, none},
		{"the way round is cheaper", []string{"0: 1+1 2+9", "1: 2+1", "2:"}, 0, 2, found(3, 0, 1, 2)},
		{"the way round is dearer", []string{"0: 1+4 2+7", "1: 2+4", "2:"}, 0, 2, found(8, 0, 2)},
		{"cheap at first, dear at the end", []string{"0: 1+1 2+3", "1: 3+9", "2: 3+3", "3:"}, 0, 3, found(7, 0, 2, 3)},
		{"lowered twice", []string{"0: 1+1 2+3 3+9", "1: 2+1 3+6", "2: 3+1", "3:"}, 0, 3, found(4, 0, 1, 2, 3)},
		{"by larger numbers", []string{"0: 1+9 4+1", "1:", "2: 1+1", "3: 2+1", "4: 3+1"}, 0, 1, found(5, 0, 4, 3, 2, 1)},
		{"from the largest to the least", []string{"0:", "1: 0+2", "2: 1+3"}, 2, 0, found(6, 2, 1, 0)},
		{"one edge", []string{"0: 0+0"}, 0, 0, found(1, 0)},
		{"to itself at no cost round a ring", []string{"0: 1+0", "1: 0+0"}, 1, 1, found(1, 1)},
		{"costs of 0 in rings", []string{"0: 1+0", "1: 0+0 1+0 2+0", "2: 0+0 3+0", "3: 0+0 1+0 2+0 3+0"}, 0, 3, found(1, 0, 1, 2, 3)},
		{"a loop of 0 at each", []string{"0: 0+0 1+2", "1: 1+0 2+2", "2: 2+0"}, 0, 2, found(5, 0, 1, 2)},
	})
}

func TestShortestByLength(t *testing.T) {
	checkShortest(t, []shortestCase{
		{"straight on", []string{"0: 1+2 2+5", "1: 2+3", "2:"}, 0, 2, found(6, 0, 2)},
		{"by larger numbers", []string{"0: 1+2 3+5", "1: 2+3", "2: 4+0", "3: 4+0", "4:"}, 0, 4, found(6, 0, 3, 4)},
		{"the longer one is met first", []string{"0: 1+0 3+1", "1: 2+0", "2: 4+2", "3: 4+1", "4:"}, 0, 4, found(3, 0, 3, 4)},
		{"the longer one has no cost on its way", []string{"0: 1+0 4+3", "1: 2+0", "2: 3+0", "3: 4+3", "4:"}, 0, 4, found(4, 0, 4)},
		{"the longer one has its cost at once", []string{"0: 1+3 4+3", "1: 2+0", "2: 3+0", "3: 4+0", "4:"}, 0, 4, found(4, 0, 4)},
		{"nothing costs anything", []string{"0: 1+0 3+0", "1: 2+0", "2: 4+0", "3: 4+0", "4:"}, 0, 4, found(1, 0, 3, 4)},
		{"on the way, not at its end", []string{"0: 1+1 3+2", "1: 2+1", "2: 4+0", "3: 4+0", "4: 5+7", "5:"}, 0, 5, found(10, 0, 3, 4, 5)},
		{"a cost less counts for more than edges", []string{"0: 1+0 4+1", "1: 2+0", "2: 3+0", "3: 4+0", "4:"}, 0, 4, found(1, 0, 1, 2, 3, 4)},
	})
}

// At each place the smaller number is met first, at the same time and last: what decides is not the order of the search.
func TestShortestByEdges(t *testing.T) {
	for _, c := range [][2]string{{"1", "3"}, {"2", "2"}, {"3", "1"}} {
		near, far := c[0], c[1]
		checkShortest(t, []shortestCase{
			{"the only place", []string{"0: 1+" + near + " 2+" + far, "1: 3+" + far, "2: 3+" + near, "3:"}, 0, 3, found(5, 0, 1, 3)},
			{"the first place", []string{"0: 1+" + near + " 2+" + far, "1: 3+" + far, "2: 3+" + near, "3: 4+1", "4: 5+1", "5:"}, 0, 5, found(7, 0, 1, 3, 4, 5)},
			{"a middle place", []string{"0: 1+1", "1: 2+" + near + " 3+" + far, "2: 4+" + far, "3: 4+" + near, "4: 5+1", "5:"}, 0, 5, found(7, 0, 1, 2, 4, 5)},
			{"the last place", []string{"0: 1+1", "1: 2+1", "2: 3+" + near + " 4+" + far, "3: 5+" + far, "4: 5+" + near, "5:"}, 0, 5, found(7, 0, 1, 2, 3, 5)},
			{"from the front, not from the end", []string{"0: 1+" + near + " 2+" + far, "1: 4+" + far, "2: 3+" + near, "3: 5+2", "4: 5+2", "5:"}, 0, 5, found(7, 0, 1, 4, 5)},
			{"from the front, the rest is crossed", []string{"0: 1+" + near + " 2+" + far, "1: 3+9 4+" + far, "2: 3+" + near + " 4+" + near, "3: 5+2", "4: 5+2", "5:"}, 0, 5, found(7, 0, 1, 4, 5)},
			{"every place", []string{"0: 1+" + near + " 2+" + far, "1: 3+" + far + " 4+" + far, "2: 3+" + near + " 4+" + near, "3: 5+2", "4: 5+2", "5:"}, 0, 5, found(7, 0, 1, 3, 5)},
			{"the smaller number goes nowhere", []string{"0: 1+" + near + " 2+" + far, "1:", "2: 3+" + near, "3:"}, 0, 3, found(5, 0, 2, 3)},
			{"the smaller number comes to more", []string{"0: 1+" + near + " 2+" + far, "1: 3+4", "2: 3+0", "3:"}, 0, 3, found(1+numberIn(t, far), 0, 2, 3)},
		})
	}
	checkShortest(t, []shortestCase{
		{"the smaller number lies on a ring back", []string{"0: 0+0 1+0", "1: 0+0 1+0 2+0", "2:"}, 0, 2, found(1, 0, 1, 2)},
		{"the target's own number is the smallest", []string{"0:", "1: 2+1 3+1", "2: 0+1", "3: 0+1"}, 1, 0, found(3, 1, 2, 0)},
		{"the smaller number reaches the same vertex later", []string{"0: 1+0 2+0", "1: 3+1", "2: 3+0", "3: 4+0", "4:"}, 0, 4, found(1, 0, 2, 3, 4)},
	})
}

func TestShortestToSeveralVertices(t *testing.T) {
	checkShortest(t, []shortestCase{
		{"the later vertex is cheaper", []string{"0: 1+1 2+1", "1: 3/0+5", "2: 3/1+1", "3/0:", "3/1:"}, 0, 3, found(3, 0, 2, 3)},
		{"the first vertex is cheaper", []string{"0: 1+1 2+1", "1: 3/1+5", "2: 3/0+1", "3/0:", "3/1:"}, 0, 3, found(3, 0, 2, 3)},
		{"the one met first is dearer", []string{"0: 1+1 3/0+9", "1: 2+1", "2: 3/1+1", "3/0:", "3/1:"}, 0, 3, found(4, 0, 1, 2, 3)},
		{"the same cost over fewer vertices", []string{"0: 1+1 3/1+3", "1: 2+1", "2: 3/0+1", "3/0:", "3/1:"}, 0, 3, found(4, 0, 3)},
		{"the same cost and as many vertices: by edges", []string{"0: 1+1 2+1", "1: 3/1+1", "2: 3/0+1", "3/0:", "3/1:"}, 0, 3, found(3, 0, 1, 3)},
		{"by edges, though the other one is met first", []string{"0: 1+2 2+1", "1: 3/1+1", "2: 3/0+2", "3/0:", "3/1:"}, 0, 3, found(4, 0, 1, 3)},
		{"by edges, though the other one comes first", []string{"0: 1+1 2+2", "1: 3/0+2", "2: 3/1+1", "3/0:", "3/1:"}, 0, 3, found(4, 0, 1, 3)},
		{"three of them", []string{"0: 1+1 2+1 3+1", "1: 4/7+2", "2: 4/1+1", "3: 4/0+1", "4/0:", "4/1:", "4/7:"}, 0, 4, found(3, 0, 2, 4)},
		{"the start of the target is out of reach", []string{"0: 1/1+4", "*1/0: 0+1", "1/1:"}, 0, 1, found(5, 0, 1)},
		{"the smaller number leads to a dearer vertex", []string{"0: 1+1 2+1", "1: 3/0+2", "2: 3/1+1", "3/0: 3/1+0", "3/1:"}, 0, 3, found(3, 0, 2, 3)},
	})
}

func TestShortestThroughOneEdgeTwice(t *testing.T) {
	none := impl.Route{Code: impl.RouteNone}
	checkShortest(t, []shortestCase{
		{"an edge on the way", []string{"0: 1/0+1", "1/0: 2+1", "1/1: 3+1", "2: 1/1+1", "3:"}, 0, 3, found(5, 0, 1, 2, 1, 3)},
		{"the first edge", []string{"0/0: 1+1", "0/1: 2+1", "1: 0/1+1", "2:"}, 0, 2, found(4, 0, 1, 0, 2)},
		{"twice in a row", []string{"0: 1/0+1", "1/0: 1/1+1", "1/1: 2+1", "2:"}, 0, 2, found(4, 0, 1, 1, 2)},
		{"the start is not the first vertex", []string{"0/0: 1+1", "*0/3: 1+5", "1:"}, 0, 1, found(6, 0, 1)},
		{"only another vertex of the edge goes on", []string{"0/0: 1+1", "*0/3:", "1:"}, 0, 1, none},
		{"s is t, and another vertex of it is near", []string{"0/0: 0/1+0", "0/1: 0/0+0"}, 0, 0, found(1, 0)},
		{"s is t, and the start is the last vertex", []string{"0/0: 0/1+0", "*0/1: 0/0+0"}, 0, 0, found(1, 0)},
	})
}

func TestShortestRefuses(t *testing.T) {
	g := sketched(t, "0: 1+5", "1: 0+2")
	bad := impl.Route{Code: impl.RouteBadQuery}
	outside := []int64{-1, 2, 3, math.MinInt64, math.MaxInt64, 1 << 32, -1 << 32, 1<<32 + 1}
	for _, number := range outside {
		for _, other := range append([]int64{0, 1}, outside...) {
			wantRoute(t, "s outside", impl.Shortest(g, number, other), bad)
			wantRoute(t, "t outside", impl.Shortest(g, other, number), bad)
		}
	}
	wantRoute(t, "both in range", impl.Shortest(g, 1, 0), found(3, 1, 0))
	// Vertices are no edges.
	g = sketched(t, "0/0:", "0/1:", "0/2:")
	wantRoute(t, "a number that is a vertex, but no edge", impl.Shortest(g, 0, 1), bad)
	g = impl.Graph{First: []int64{0}}
	wantRoute(t, "without an edge", impl.Shortest(g, 0, 0), bad)
	wantRoute(t, "without an edge, -1", impl.Shortest(g, -1, -1), bad)
	for i, name := range graphListNames {
		broken := []impl.Graph{{}, smallGraph(), smallGraph(), smallGraph()}
		*graphLists(&broken[1])[i] = nil
		list := graphLists(&broken[2])[i]
		*list = append(*list, 0)
		(*graphLists(&broken[3])[i])[0] = -2
		for _, g := range broken {
			for _, pair := range [][2]int64{{0, 0}, {0, 1}, {1, 0}, {-1, 0}, {0, -1}, {2, 0}, {0, 2}, {math.MinInt64, math.MaxInt64}} {
				wantRoute(t, name+": not valid", impl.Shortest(g, pair[0], pair[1]), impl.Route{Code: impl.RouteNotLoaded})
			}
		}
	}
}

// chain goes through all of its vertices in the order of their numbers.
func chain(edges, vertices int, weight, cost int64) impl.Graph {
	g := blockGraph(edges, vertices, 0)
	for e := range g.Weight {
		g.Weight[e] = weight
	}
	for v := 1; v < vertices; v++ {
		g.To = append(g.To, int64(v))
		g.Cost = append(g.Cost, cost)
		g.First[v] = int64(v)
	}
	g.First[vertices] = int64(len(g.To))
	return g
}

func TestShortestOverTheLongestPath(t *testing.T) {
	for _, c := range [][2]int64{{impl.MaxNumber, impl.MaxArcCost}, {0, 0}, {impl.MaxNumber, 0}, {0, impl.MaxArcCost}} {
		g := chain(impl.MaxEdges, impl.MaxEdges+impl.MaxStates, c[0], c[1])
		want := found(c[0]+5999*c[1], g.EdgeOf...)
		wantRoute(t, "all vertices", impl.Shortest(g, 0, impl.MaxEdges-1), want)
		path := impl.LiftWalk(g, want.Edges)
		if len(path) != 6000 || impl.PathCost(g, path) != want.Cost {
			t.Errorf("%d vertices, cost %d", len(path), impl.PathCost(g, path))
		}
		wantRoute(t, "all but two", impl.Shortest(g, 1, impl.MaxEdges-1), found(c[0]+5997*c[1], g.EdgeOf[2:]...))
		wantRoute(t, "one edge, at the limit", impl.Shortest(g, impl.MaxEdges-1, impl.MaxEdges-1), found(c[0], impl.MaxEdges-1))
		wantRoute(t, "back", impl.Shortest(g, impl.MaxEdges-1, 0), impl.Route{Code: impl.RouteNone})
		wantRoute(t, "past the last edge", impl.Shortest(g, 0, impl.MaxEdges), impl.Route{Code: impl.RouteBadQuery})
	}
	if got := impl.Shortest(chain(4000, 6000, impl.MaxNumber, impl.MaxArcCost), 0, 3999).Cost; got != 18872270848 {
		t.Errorf("cost %d", got)
	}
}

// layers has rungs of width vertices each, every one joined to all of the next, between one first and one last edge.
func layers(rungs, width int, cost func(v, w int64) int64) impl.Graph {
	count := rungs*width + 2
	g := blockGraph(count, count, 0)
	g.First = []int64{0}
	last := int64(count - 1)
	for v := range int64(count) {
		next := (v + int64(width) - 1) / int64(width)
		for i := range int64(width) {
			to := next*int64(width) + 1 + i
			if v != last && (to < last || i == 0) {
				to = min(to, last)
				g.To = append(g.To, to)
				g.Cost = append(g.Cost, cost(v, to))
			}
		}
		g.First = append(g.First, int64(len(g.To)))
	}
	return g
}

func TestShortestInTime(t *testing.T) {
	none := func(v, w int64) int64 { return 0 }
	// Far more best paths than could be listed, each as good as the others but for its edges.
	ladder := layers(1990, 2, none)
	var route impl.Route
	within(t, 10*time.Second, func() { route = impl.Shortest(ladder, 0, 3981) })
	want := []int64{0}
	for v := int64(1); v < 3981; v += 2 {
		want = append(want, v)
	}
	wantRoute(t, "a ladder", route, found(0, append(want, 3981)...))
	// The larger number of each rung is met first, and the smaller one is no dearer in the end.
	crossed := layers(1990, 2, func(v, w int64) int64 { return 2 - w%2 + v%2 })
	crossed.Cost[0], crossed.Cost[1] = 3, 3
	within(t, 10*time.Second, func() { route = impl.Shortest(crossed, 0, 3981) })
	wantRoute(t, "a ladder that is crossed", route, refLabel(crossed, 0)[3981])

	wide := layers(5, 98, func(v, w int64) int64 { return (v*7 + w*13) % 50 })
	if len(wide.To) < 38000 || len(wide.To) > impl.MaxArcs {
		t.Fatalf("%d arcs", len(wide.To))
	}
	last := int64(len(wide.Start) - 1)
	within(t, 20*time.Second, func() {
		for range 300 {
			route = impl.Shortest(wide, 0, last)
		}
	})
	wantRoute(t, "wide layers", route, refLabel(wide, 0)[last])

	// 200 edges, each joined to all. Going on by one costs less than any leap, so that every vertex is lowered time and again.
	full := blockGraph(200, 200, impl.MaxArcs)
	for k := range full.Cost {
		leap := int64(k%200 - k/200)
		full.Cost[k] = max(leap, -leap) * max(leap, -leap)
	}
	within(t, 20*time.Second, func() {
		for range 300 {
			route = impl.Shortest(full, 0, 199)
		}
	})
	wantRoute(t, "MaxArcs arcs", route, found(199, run(0, 1, 200)...))
	within(t, 20*time.Second, func() {
		for range 300 {
			route = impl.Shortest(full, 199, 0)
		}
	})
	wantRoute(t, "MaxArcs arcs the other way", route, found(199, run(199, -1, 200)...))
}

package tests

import (
	"cmp"
	"math/rand"
	"slices"
	"testing"

	"loop.example/s0019/impl"
)

// A second reading of section 5.1, in two ways: all paths listed, and whole paths bettered arc by arc until none can be.

// refBetter is the order of section 5.1 between two routes that are found.
func refBetter(a, b impl.Route) bool {
	return cmp.Or(cmp.Compare(a.Cost, b.Cost), cmp.Compare(len(a.Edges), len(b.Edges)), slices.Compare(a.Edges, b.Edges)) < 0
}

func refNoRoutes(g impl.Graph) []impl.Route {
	return slices.Repeat([]impl.Route{{Code: 1}}, len(g.Start))
}

// refAllPaths lists all paths from an edge without a repeated vertex, and answers the best one to each edge.
func refAllPaths(g impl.Graph, s int64) []impl.Route {
	best := refNoRoutes(g)
	used := make([]bool, len(g.EdgeOf))
	var edges []int64
	var visit func(v, cost int64)
	visit = func(v, cost int64) {
		used[v] = true
		edge := g.EdgeOf[v]
		edges = append(edges, edge)
		if here := found(cost, edges...); best[edge].Code == 1 || refBetter(here, best[edge]) {
			best[edge] = found(cost, slices.Clone(edges)...)
		}
		for k := g.First[v]; k < g.First[v+1]; k++ {
			if !used[g.To[k]] {
				visit(g.To[k], cost+g.Cost[k])
			}
		}
		edges = edges[:len(edges)-1]
		used[v] = false
	}
	visit(g.Start[s], g.Weight[s])
	return best
}

// refLabel keeps a whole path for each vertex and goes over all arcs until no path gets better.
func refLabel(g impl.Graph, s int64) []impl.Route {
	paths := slices.Repeat([]impl.Route{{Code: 1}}, len(g.EdgeOf))
	paths[g.Start[s]] = found(g.Weight[s], s)
	for changed := true; changed; {
		changed = false
		for v := range g.EdgeOf {
			if paths[v].Code == 1 {
				continue
			}
			for k := g.First[v]; k < g.First[v+1]; k++ {
				to := g.To[k]
				// Whole lists are compared only where nothing else decides.
				if paths[to].Code == 0 && paths[to].Cost < paths[v].Cost+g.Cost[k] {
					continue
				}
				longer := found(paths[v].Cost+g.Cost[k], slices.Concat(paths[v].Edges, g.EdgeOf[to:to+1])...)
				if paths[to].Code == 1 || refBetter(longer, paths[to]) {
					paths[to] = longer
					changed = true
				}
			}
		}
	}
	best := refNoRoutes(g)
	for v, path := range paths {
		edge := g.EdgeOf[v]
		if path.Code == 0 && (best[edge].Code == 1 || refBetter(path, best[edge])) {
			best[edge] = path
		}
	}
	return best
}

// tiedGraph is valid, and its few different costs make many paths equal. It has at most as many vertices as asked for. In every other
// graph the edges lie on levels and arcs mostly go up by one, so that paths are long.
func tiedGraph(r *rand.Rand, most int) impl.Graph {
	costs := [][]int64{{0}, {0, 1}, {1}, {0, 1, 2}, {1, 2}, {0, 0, 0, 5}, {2, 3, 5}}[r.Intn(7)]
	full, levelled := 1+r.Intn(9), r.Intn(2) == 0
	g := impl.Graph{First: []int64{0}}
	var levels []int
	for count := 1 + r.Intn(most); len(g.EdgeOf) < count; {
		e := int64(len(g.Start))
		states := min(1+r.Intn(3), count-len(g.EdgeOf))
		g.Start = append(g.Start, int64(len(g.EdgeOf)+r.Intn(states)))
		g.Weight = append(g.Weight, int64(r.Intn(3)))
		levels = append(levels, r.Intn(1+most/3))
		for state := range int64(states) {
			g.EdgeOf = append(g.EdgeOf, e)
			g.StateOf = append(g.StateOf, state*state)
		}
	}
	for _, from := range g.EdgeOf {
		for to, level := range levels {
			if levelled && level != levels[from]+1 && r.Intn(10) > 0 || r.Intn(10) >= full && !levelled {
				continue
			}
			first := slices.Index(g.EdgeOf, int64(to))
			states := 0
			for first+states < len(g.EdgeOf) && g.EdgeOf[first+states] == int64(to) {
				states++
			}
			g.To = append(g.To, int64(first+r.Intn(states)))
			g.Cost = append(g.Cost, costs[r.Intn(len(costs))])
		}
		g.First = append(g.First, int64(len(g.To)))
	}
	return g
}

// checkAllRoutes asks for the route between every two edges of a graph.
func checkAllRoutes(t *testing.T, g impl.Graph, best func(impl.Graph, int64) []impl.Route, each func(s, t int64, route impl.Route)) {
	t.Helper()
	before := copyGraph(g)
	for s := range int64(len(g.Start)) {
		for to, want := range best(g, s) {
			got := impl.Shortest(g, s, int64(to))
			if !sameRoute(got, want) {
				t.Fatalf("%s\nweights %v, %d to %d: %+v, want %+v", drawn(g), g.Weight, s, to, got, want)
			}
			if got.Code == 0 {
				path := impl.LiftWalk(g, got.Edges)
				if impl.PathCost(g, path) != got.Cost || g.EdgeOf[path[len(path)-1]] != int64(to) {
					t.Fatalf("%s\n%+v is no path", drawn(g), got)
				}
			}
			each(s, int64(to), got)
		}
	}
	if !sameGraph(g, before) {
		t.Fatal("the graph was changed")
	}
}

// A tally counts what the drawn graphs ask of the choice among equals.
type tally struct {
	none, single, long, twice  int
	shorter, first, mid, last  int
	sameRankGoals, lesserGoals int
}

// count lists all paths again and looks where those that cost as much as the best differ from it.
func (c *tally) count(g impl.Graph, s, t int64, best impl.Route) {
	if best.Code == 1 {
		c.none++
		return
	}
	if len(best.Edges) == 1 {
		c.single++
		return
	}
	if len(best.Edges) > 4 {
		c.long++
	}
	if sorted := slices.Sorted(slices.Values(best.Edges)); len(slices.Compact(sorted)) < len(best.Edges) {
		c.twice++
	}
	path := impl.LiftWalk(g, best.Edges)
	goal := path[len(path)-1]
	if first := slices.Index(g.EdgeOf, t); int64(first) != goal {
		c.lesserGoals++
	}
	var visit func(path []int64, cost int64)
	visit = func(path []int64, cost int64) {
		v := path[len(path)-1]
		if g.EdgeOf[v] == t && cost == best.Cost {
			c.compare(best.Edges, refEdges(g, path))
			if len(path) == len(best.Edges) && v != goal {
				c.sameRankGoals++
			}
		}
		for k := g.First[v]; k < g.First[v+1]; k++ {
			if !slices.Contains(path, g.To[k]) && cost+g.Cost[k] <= best.Cost {
				visit(append(slices.Clone(path), g.To[k]), cost+g.Cost[k])
			}
		}
	}
	visit([]int64{g.Start[s]}, g.Weight[s])
}

func (c *tally) compare(best, other []int64) {
	if len(other) > len(best) {
		c.shorter++
		return
	}
	for i := range best {
		if best[i] == other[i] {
			continue
		}
		switch i {
		case 1:
			c.first++
		case len(best) - 2:
			c.last++
		default:
			c.mid++
		}
		return
	}
}

func TestShortestAgainstAllPaths(t *testing.T) {
	r := rand.New(rand.NewSource(21))
	var c tally
	for range 20000 {
		g := tiedGraph(r, 14)
		if len(g.To) > 30 {
			// Too many paths to list.
			continue
		}
		if !refValidGraph(g) {
			t.Fatalf("%+v is not valid", g)
		}
		checkAllRoutes(t, g, refAllPaths, func(s, to int64, route impl.Route) { c.count(g, s, to, route) })
	}
	for name, times := range map[string]int{"none": c.none, "one edge": c.single, "long": c.long, "an edge twice": c.twice, "equal cost, more edges": c.shorter,
		"differs at the first place": c.first, "differs in the middle": c.mid, "differs at the last place": c.last,
		"another end of the same rank": c.sameRankGoals, "the end is not the first vertex of its edge": c.lesserGoals} {
		if times < 200 {
			t.Errorf("%s: met only %d times", name, times)
		}
	}
}

func TestShortestAgainstLabels(t *testing.T) {
	r := rand.New(rand.NewSource(22))
	long, twice := 0, 0
	each := func(s, to int64, route impl.Route) {
		if len(route.Edges) > 8 {
			long++
		}
		if sorted := slices.Sorted(slices.Values(route.Edges)); len(slices.Compact(sorted)) < len(route.Edges) {
			twice++
		}
	}
	for i := range 700 {
		g := tiedGraph(r, 60)
		switch i % 4 {
		case 0:
			g = freeGraph(r)
		case 1:
			g = refCompile(crowdedNet(r))
		}
		checkAllRoutes(t, g, refLabel, each)
	}
	if long < 500 || twice < 500 {
		t.Errorf("%d long routes, %d with an edge twice", long, twice)
	}
}

// Every entry of a small graph is changed: what is no longer valid gives code 3 before s and t are looked at.
func TestShortestOfChangedGraphs(t *testing.T) {
	r := rand.New(rand.NewSource(23))
	valid, broken := 0, 0
	for range 60 {
		g := tiedGraph(r, 6)
		for _, list := range graphLists(&g) {
			for k := range *list {
				old := (*list)[k]
				for _, number := range []int64{-1 << 63, -1, 0, 1, 2, old - 1, old + 1, int64(len(g.EdgeOf)), int64(len(g.To)) + 1, 1999, 2000, 1048577, 3145729, 1<<63 - 1} {
					(*list)[k] = number
					if refValidGraph(g) {
						valid++
						checkAllRoutes(t, g, refAllPaths, func(s, t int64, route impl.Route) {})
						continue
					}
					broken++
					for _, pair := range [][2]int64{{0, 0}, {-1, 0}, {0, int64(len(g.Start))}} {
						wantRoute(t, "not valid", impl.Shortest(g, pair[0], pair[1]), impl.Route{Code: 3})
					}
				}
				(*list)[k] = old
			}
		}
	}
	if valid < 2000 || broken < 2000 {
		t.Errorf("%d valid, %d broken", valid, broken)
	}
}

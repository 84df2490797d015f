package tests

import (
	"cmp"
	"math/rand"
	"slices"
	"testing"

	"loop.example/s0019/impl"
)

// A second reading of chapter 4, by the letter and without care for time.

func refCompile(n impl.Net) impl.Graph {
	road := refRoad(n)
	auto := refAuto(refResolve(n).Rules)
	var vertices [][2]int64
	for e := range int64(len(road.Edges)) {
		vertices = append(vertices, [2]int64{e, refStep(auto, 0, e)})
	}
	starts := slices.Clone(vertices)
	arcs := map[[2]int64][][2]int64{}
	for i := 0; i < len(vertices); i++ {
		from := vertices[i]
		for f := range int64(len(road.Edges)) {
			to := [2]int64{f, refStep(auto, from[1], f)}
			if road.Edges[from[0]].Head != road.Edges[f].Tail || to[1] == -1 {
				continue
			}
			arcs[from] = append(arcs[from], to)
			if !slices.Contains(vertices, to) {
				vertices = append(vertices, to)
			}
		}
	}
	slices.SortFunc(vertices, func(a, b [2]int64) int { return slices.Compare(a[:], b[:]) })
	g := impl.Graph{First: []int64{0}}
	for _, v := range vertices {
		g.EdgeOf = append(g.EdgeOf, v[0])
		g.StateOf = append(g.StateOf, v[1])
		for _, w := range arcs[v] {
			g.To = append(g.To, int64(slices.Index(vertices, w)))
			g.Cost = append(g.Cost, refCost(n, road, []int64{v[0], w[0]})-road.Edges[v[0]].Weight)
		}
		g.First = append(g.First, int64(len(g.To)))
	}
	for e, start := range starts {
		g.Start = append(g.Start, int64(slices.Index(vertices, start)))
		g.Weight = append(g.Weight, road.Edges[e].Weight)
	}
	return g
}

func refInside(list []int64, least, most int64) bool {
	return !slices.ContainsFunc(list, func(x int64) bool { return x < least || x > most })
}

func refValidGraph(g impl.Graph) bool {
	edges, vertices, arcs := len(g.Start), len(g.EdgeOf), len(g.To)
	if edges > 4000 || len(g.Weight) != edges || vertices > 6000 || len(g.StateOf) != vertices ||
		len(g.First) != vertices+1 || len(g.Cost) != arcs || arcs > 40000 {
		return false
	}
	if !refInside(g.Weight, 0, 1048576) || !refInside(g.EdgeOf, 0, int64(edges)-1) || !refInside(g.StateOf, 0, 1999) ||
		!refInside(g.Start, 0, int64(vertices)-1) || !refInside(g.First, 0, int64(arcs)) ||
		!refInside(g.To, 0, int64(vertices)-1) || !refInside(g.Cost, 0, 3145728) {
		return false
	}
	for e, v := range g.Start {
		if g.EdgeOf[v] != int64(e) {
			return false
		}
	}
	for v := 1; v < vertices; v++ {
		if cmp.Or(cmp.Compare(g.EdgeOf[v-1], g.EdgeOf[v]), cmp.Compare(g.StateOf[v-1], g.StateOf[v])) != -1 {
			return false
		}
	}
	if g.First[0] != 0 || g.First[vertices] != int64(arcs) {
		return false
	}
	for v := range vertices {
		if g.First[v] > g.First[v+1] {
			return false
		}
		for k := g.First[v] + 1; k < g.First[v+1]; k++ {
			if g.EdgeOf[g.To[k-1]] >= g.EdgeOf[g.To[k]] {
				return false
			}
		}
	}
	return true
}

// refArc answers the arc between two vertices of a valid graph, or -1.
func refArc(g impl.Graph, v, w int64) int64 {
	for k := g.First[v]; k < g.First[v+1]; k++ {
		if g.To[k] == w {
			return k
		}
	}
	return -1
}

// refPathCost answers -1 for what is no path of a valid graph.
func refPathCost(g impl.Graph, path []int64) int64 {
	if len(path) == 0 || len(path) > 10000 || !refInside(path, 0, int64(len(g.EdgeOf))-1) || g.Start[g.EdgeOf[path[0]]] != path[0] {
		return -1
	}
	cost := g.Weight[g.EdgeOf[path[0]]]
	for i := 1; i < len(path); i++ {
		k := refArc(g, path[i-1], path[i])
		if k == -1 {
			return -1
		}
		cost += g.Cost[k]
	}
	return cost
}

// refLift looks for a next vertex among all of them.
func refLift(g impl.Graph, walk []int64) []int64 {
	if len(walk) == 0 || len(walk) > 10000 || !refInside(walk, 0, int64(len(g.Start))-1) {
		return nil
	}
	path := []int64{g.Start[walk[0]]}
	for i, edge := range walk[1:] {
		for w, at := range g.EdgeOf {
			if at == edge && refArc(g, path[i], int64(w)) != -1 {
				path = append(path, int64(w))
				break
			}
		}
		if len(path) != i+2 {
			return nil
		}
	}
	return path
}

func refEdges(g impl.Graph, path []int64) []int64 {
	if refPathCost(g, path) == -1 {
		return nil
	}
	var walk []int64
	for _, v := range path {
		walk = append(walk, g.EdgeOf[v])
	}
	return walk
}

func wantLift(t *testing.T, name string, g impl.Graph, walk, want []int64) {
	t.Helper()
	if got := impl.LiftWalk(g, walk); !slices.Equal(got, want) {
		t.Fatalf("%s: LiftWalk of %v is %v, want %v", name, walk, got, want)
	}
}

// wantPath holds both functions of a path: its edges, and its cost or -1.
func wantPath(t *testing.T, name string, g impl.Graph, path, edges []int64, cost int64) {
	t.Helper()
	if got := impl.PathEdges(g, path); !slices.Equal(got, edges) {
		t.Fatalf("%s: PathEdges of %v is %v, want %v", name, path, got, edges)
	}
	if got := impl.PathCost(g, path); got != cost {
		t.Fatalf("%s: PathCost of %v is %d, want %d", name, path, got, cost)
	}
}

// randomPath starts where a path may and mostly follows arcs.
func randomPath(r *rand.Rand, g impl.Graph) []int64 {
	if len(g.EdgeOf) == 0 {
		return []int64{int64(r.Intn(3)) - 1}
	}
	any := func() int64 { return int64(r.Intn(len(g.EdgeOf)+2)) - 1 }
	path := []int64{g.Start[r.Intn(len(g.Start))]}
	if r.Intn(10) == 0 {
		path[0] = any()
	}
	for range r.Intn(12) {
		v := path[len(path)-1]
		if v < 0 || v >= int64(len(g.EdgeOf)) {
			break
		}
		if arcs := g.To[g.First[v]:g.First[v+1]]; r.Intn(30) > 0 && len(arcs) > 0 {
			path = append(path, arcs[r.Intn(len(arcs))])
		} else if r.Intn(4) == 0 {
			path = append(path, any())
		}
	}
	return path
}

func TestCompileAgainstReference(t *testing.T) {
	r := rand.New(rand.NewSource(11))
	met := map[string]int{}
	for range 4000 {
		n := crowdedNet(r)
		before := copyNet(n)
		want := refCompile(n)
		g := compiled(t, n)
		if !sameGraph(g, want) {
			t.Fatalf("%s%s\nwant\n%s", textOf(n), drawn(g), drawn(want))
		}
		if !impl.ValidGraph(g) || !refValidGraph(g) {
			t.Fatalf("%s: not valid", textOf(n))
		}
		if !sameNet(n, before) {
			t.Fatal("the network was changed")
		}
		if len(g.EdgeOf) > len(g.Start) {
			met["edge in several states"]++
		}
		for _, v := range g.Start {
			if !slices.Contains(g.To, v) {
				met["start to which no arc goes"]++
			}
		}
		road := refRoad(n)
		for v, edge := range g.EdgeOf {
			head := road.Edges[edge].Head
			switch arcs, joined := g.First[v+1]-g.First[v], road.First[head+1]-road.First[head]; {
			case arcs == joined:
			case arcs == 0:
				met["rules that leave no arc"]++
			case arcs == 1:
				met["rules that leave one arc"]++
			default:
				met["rules that leave more arcs"]++
			}
		}
	}
	for _, kind := range []string{"edge in several states", "start to which no arc goes", "rules that leave no arc", "rules that leave one arc", "rules that leave more arcs"} {
		if met[kind] < 200 {
			t.Errorf("%s: met only %d times", kind, met[kind])
		}
	}
}

// The promises P12 and P13 themselves: walks and paths held against section 2.3 alone.
func TestWalksAndPathsAreInverse(t *testing.T) {
	r := rand.New(rand.NewSource(12))
	legal, illegal, long := 0, 0, 0
	for range 3000 {
		n := crowdedNet(r)
		g := compiled(t, n)
		road, rules := refRoad(n), refResolve(n).Rules
		for range 10 {
			walk := randomWalk(r, road, rules)
			path := impl.LiftWalk(g, walk)
			if (len(path) > 0) != refLegal(road, rules, walk) {
				t.Fatalf("%s%v is lifted to %v", textOf(n), walk, path)
			}
			if len(path) == 0 {
				illegal++
				continue
			}
			legal++
			wantPath(t, "lifted", g, path, walk, refCost(n, road, walk))
		}
		for range 10 {
			path := randomPath(r, g)
			walk := impl.PathEdges(g, path)
			if len(walk) == 0 {
				wantPath(t, "no path", g, path, nil, -1)
				continue
			}
			if len(walk) > 4 {
				long++
			}
			if !refLegal(road, rules, walk) {
				t.Fatalf("%s%v gives the walk %v", textOf(n), path, walk)
			}
			wantPath(t, "a path", g, path, walk, refCost(n, road, walk))
			wantLift(t, "its walk", g, walk, path)
		}
	}
	if legal < 4000 || illegal < 4000 || long < 4000 {
		t.Errorf("%d legal walks, %d illegal, %d long paths", legal, illegal, long)
	}
}

// Every walk of up to four edges, legal or not.
func TestEveryShortWalk(t *testing.T) {
	r := rand.New(rand.NewSource(13))
	checked := 0
	for checked < 120 {
		n := crowdedNet(r)
		road, rules := refRoad(n), refResolve(n).Rules
		count := int64(len(road.Edges))
		if count > 8 || len(rules) < 2 {
			continue
		}
		checked++
		g := compiled(t, n)
		walks := [][]int64{{}}
		for i := 0; i < len(walks); i++ {
			walk := walks[i]
			if got := len(impl.LiftWalk(g, walk)); (got > 0) != refLegal(road, rules, walk) || got != 0 && got != len(walk) {
				t.Fatalf("%s%v is lifted to %d vertices", textOf(n), walk, got)
			}
			for edge := range count {
				if len(walk) < 4 {
					walks = append(walks, append(slices.Clone(walk), edge))
				}
			}
		}
	}
}

// freeGraph is valid, but no network need give it.
func freeGraph(r *rand.Rand) impl.Graph {
	g := impl.Graph{First: []int64{0}}
	for e := range int64(r.Intn(6)) {
		g.Weight = append(g.Weight, []int64{0, 1, 2, 7, 1048576}[r.Intn(5)])
		states := []int64{0, 1, 2, 5, 1998, 1999}
		r.Shuffle(len(states), func(i, j int) { states[i], states[j] = states[j], states[i] })
		states = states[:1+r.Intn(3)]
		slices.Sort(states)
		g.Start = append(g.Start, int64(len(g.EdgeOf)+r.Intn(len(states))))
		for _, state := range states {
			g.EdgeOf = append(g.EdgeOf, e)
			g.StateOf = append(g.StateOf, state)
		}
	}
	for range g.EdgeOf {
		for e := range int64(len(g.Start)) {
			if r.Intn(3) == 0 {
				continue
			}
			to := r.Intn(len(g.EdgeOf))
			for g.EdgeOf[to] != e {
				to = r.Intn(len(g.EdgeOf))
			}
			g.To = append(g.To, int64(to))
			g.Cost = append(g.Cost, []int64{0, 1, 3, 10, 3145728}[r.Intn(5)])
		}
		g.First = append(g.First, int64(len(g.To)))
	}
	return g
}

func freeWalk(r *rand.Rand, edges int) []int64 {
	var walk []int64
	for range r.Intn(8) {
		walk = append(walk, int64(r.Intn(edges+1)))
		if r.Intn(20) == 0 {
			walk[len(walk)-1] = -1
		}
	}
	return walk
}

func TestPathsOfFreeGraphs(t *testing.T) {
	r := rand.New(rand.NewSource(14))
	lifted, paths, none := 0, 0, 0
	for range 3000 {
		g := freeGraph(r)
		before := copyGraph(g)
		if !impl.ValidGraph(g) || !refValidGraph(g) {
			t.Fatalf("%+v is valid", g)
		}
		for range 10 {
			walk := freeWalk(r, len(g.Start))
			want := refLift(g, walk)
			wantLift(t, "free", g, walk, want)
			path := randomPath(r, g)
			cost := refPathCost(g, path)
			wantPath(t, "free", g, path, refEdges(g, path), cost)
			if len(want) > 1 {
				lifted++
			}
			if cost == -1 {
				none++
			} else if len(path) > 2 {
				paths++
			}
		}
		if !sameGraph(g, before) {
			t.Fatal("the graph was changed")
		}
	}
	if lifted < 1500 || paths < 3000 || none < 3000 {
		t.Errorf("%d walks lifted, %d paths, %d that are none", lifted, paths, none)
	}
}

// wantJudged holds ValidGraph against the second reading, and then what the three others answer at the same graph.
func wantJudged(t *testing.T, r *rand.Rand, g impl.Graph) bool {
	t.Helper()
	valid := refValidGraph(g)
	if impl.ValidGraph(g) != valid {
		t.Fatalf("%+v: ValidGraph is %v", g, !valid)
	}
	walk := freeWalk(r, 5)
	if valid {
		path := randomPath(r, g)
		wantLift(t, "changed", g, walk, refLift(g, walk))
		wantPath(t, "changed", g, path, refEdges(g, path), refPathCost(g, path))
		return true
	}
	for _, list := range [][]int64{walk, {0}, {}} {
		wantLift(t, "not valid", g, list, nil)
		wantPath(t, "not valid", g, list, nil, -1)
	}
	return false
}

// Every entry of every list is changed to every number that could matter.
func TestValidGraphAgainstReference(t *testing.T) {
	r := rand.New(rand.NewSource(15))
	var valid, broken [7]int
	for i := range 160 {
		g := freeGraph(r)
		if i%2 == 0 {
			g = refCompile(crowdedNet(r))
		}
		if len(g.EdgeOf) > 14 {
			continue
		}
		for at, list := range graphLists(&g) {
			for k := range *list {
				old := (*list)[k]
				for _, number := range []int64{-1 << 63, -1 << 32, -1, 0, 1, 2, 3, 5, old - 1, old + 1, old + 1<<32, int64(k),
					int64(len(g.Start)) - 1, int64(len(g.Start)), int64(len(g.EdgeOf)) - 1, int64(len(g.EdgeOf)), int64(len(g.To)), int64(len(g.To)) + 1,
					1999, 2000, 1048576, 1048577, 3145728, 3145729, 1<<63 - 1} {
					(*list)[k] = number
					if wantJudged(t, r, g) {
						valid[at]++
					} else {
						broken[at]++
					}
				}
				(*list)[k] = old
			}
		}
	}
	for at, name := range graphListNames {
		if valid[at] < 500 || broken[at] < 500 {
			t.Errorf("%s: %d changes kept the graph valid, %d did not", name, valid[at], broken[at])
		}
	}
}

// Each list alone is made longer, shorter and empty, and then two at a time.
func TestValidGraphListLengths(t *testing.T) {
	r := rand.New(rand.NewSource(16))
	resizes := []func([]int64) []int64{
		func(list []int64) []int64 { return append(slices.Clone(list), 0) },
		func(list []int64) []int64 { return append(slices.Clone(list), list[max(0, len(list)-1):]...) },
		func(list []int64) []int64 { return list[:max(0, len(list)-1)] },
		func(list []int64) []int64 { return list[:0] },
		func(list []int64) []int64 { return nil },
		func(list []int64) []int64 { return append(slices.Clone(list), make([]int64, 50000)...) },
	}
	broken := 0
	for range 40 {
		g := freeGraph(r)
		for i, first := range graphLists(&g) {
			for _, resize := range resizes {
				old := *first
				*first = resize(old)
				if !wantJudged(t, r, g) {
					broken++
				} else if len(*first) != len(old) {
					t.Fatalf("%s of %d entries, once %d, and still valid", graphListNames[i], len(*first), len(old))
				}
				for _, second := range graphLists(&g)[i+1:] {
					other := *second
					*second = resize(other)
					wantJudged(t, r, g)
					*second = other
				}
				*first = old
			}
		}
	}
	if broken < 1000 {
		t.Errorf("only %d graphs were broken", broken)
	}
}

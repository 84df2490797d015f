package tests

import (
	"slices"
	"testing"
	"time"

	"loop.example/s0019/impl"
)

// The vertices of the fork with one rule, that 3 does not follow on 0, 2: 0 (0/1), 1 (1/0), 2 (2/0), 3 (2/2), 4 (3/0), 5 (4/0).
func forkGraph(t *testing.T) impl.Graph {
	g := compiled(t, netOf(t, 6, append([]string{"no 1 1 by 3 4", "turn 1 3 900"}, fork...)...))
	if want := "*0/1: 2/2+930\n*1/0: 2/0+30\n*2/0: 3/0+40 4/0+50\n2/2: 4/0+50\n*3/0:\n*4/0:"; drawn(g) != want {
		t.Fatalf("%s, want\n%s", drawn(g), want)
	}
	return g
}

func TestLiftWalk(t *testing.T) {
	g := forkGraph(t)
	for _, c := range []struct {
		name       string
		walk, want []int64
	}{
		{"the empty walk", nil, nil},
		{"one edge", []int64{2}, []int64{2}},
		{"the first edge", []int64{0}, []int64{0}},
		{"the last edge", []int64{4}, []int64{5}},
		{"edge -1", []int64{-1}, nil},
		{"one past the last edge", []int64{5}, nil},
		{"a number that is a vertex, but no edge", []int64{0, 5}, nil},
		{"the least number", []int64{-1 << 63}, nil},
		{"the most", []int64{1<<63 - 1}, nil},
		{"two edges", []int64{0, 2}, []int64{0, 3}},
		{"two edges by the other way", []int64{1, 2}, []int64{1, 2}},
		{"what the rule forbids", []int64{0, 2, 3}, nil},
		{"what it leaves", []int64{0, 2, 4}, []int64{0, 3, 5}},
		{"what it does not hold for", []int64{1, 2, 3}, []int64{1, 2, 4}},
		{"nor from the middle", []int64{2, 3}, []int64{2, 4}},
		{"edges apart", []int64{0, 3}, nil},
		{"an edge after itself", []int64{2, 2}, nil},
		{"edge -1 at the end", []int64{0, 2, -1}, nil},
		{"one past the last edge at the end", []int64{0, 2, 5}, nil},
		{"edge -1 between", []int64{0, -1, 2}, nil},
		{"a walk that goes on past its end", []int64{0, 2, 4, 0}, nil},
	} {
		wantLift(t, c.name, g, c.walk, c.want)
		if len(c.want) > 0 {
			wantPath(t, c.name, g, c.want, c.walk, refPathCost(g, c.want))
		}
	}
	g.Start[0] = 2
	wantLift(t, "not valid", g, []int64{2}, nil)
	wantLift(t, "without an edge", impl.Graph{First: []int64{0}}, []int64{0}, nil)
	wantLift(t, "without an edge, the empty walk", impl.Graph{First: []int64{0}}, nil, nil)
}

func TestPaths(t *testing.T) {
	g := forkGraph(t)
	for _, c := range []struct {
		name  string
		path  []int64
		edges []int64
		cost  int64
	}{
		{"the empty path", nil, nil, -1},
		{"one vertex", []int64{2}, []int64{2}, 30},
		{"the first vertex", []int64{0}, []int64{0}, 10},
		{"the last vertex", []int64{5}, []int64{4}, 50},
		{"vertex -1", []int64{-1}, nil, -1},
		{"one past the last vertex", []int64{6}, nil, -1},
		{"the least number", []int64{-1 << 63}, nil, -1},
		{"the most", []int64{1<<63 - 1}, nil, -1},
		{"a vertex that is no start", []int64{3}, nil, -1},
		{"a path that does not begin at a start", []int64{3, 5}, nil, -1},
		{"two vertices", []int64{0, 3}, []int64{0, 2}, 940},
		{"another vertex of the same edge", []int64{0, 2}, nil, -1},
		{"the other one's vertex", []int64{1, 3}, nil, -1},
		{"three vertices", []int64{0, 3, 5}, []int64{0, 2, 4}, 990},
		{"three other vertices", []int64{1, 2, 4}, []int64{1, 2, 3}, 90},
		{"an arc that the rule took away", []int64{0, 3, 4}, nil, -1},
		{"no arc to the next", []int64{1, 2, 2}, nil, -1},
		{"no arc out of the last", []int64{1, 2, 4, 5}, nil, -1},
		{"an arc gone backwards", []int64{2, 1}, nil, -1},
		{"vertex -1 at the end", []int64{0, -1}, nil, -1},
		{"one past the last vertex at the end", []int64{0, 3, 6}, nil, -1},
		{"vertex -1 between", []int64{0, -1, 5}, nil, -1},
	} {
		wantPath(t, c.name, g, c.path, c.edges, c.cost)
		if len(c.edges) > 0 {
			wantLift(t, c.name, g, c.edges, c.path)
		}
	}
	g.First[1] = 0
	wantPath(t, "not valid", g, []int64{0}, nil, -1)
	g = impl.Graph{First: []int64{0}}
	wantPath(t, "without a vertex", g, []int64{0}, nil, -1)
	wantPath(t, "without a vertex, the empty path", g, nil, nil, -1)
}

// A graph that no network gives: a start need not be the lowest vertex of its edge, and arcs lead back to it or not.
func TestPathsOfAFreeGraph(t *testing.T) {
	g := smallGraph()
	for _, c := range []struct {
		walk, path []int64
		cost       int64
	}{
		{[]int64{0}, []int64{1}, 10}, {[]int64{1}, []int64{2}, 20},
		{[]int64{0, 0}, []int64{1, 1}, 13}, {[]int64{0, 1}, []int64{1, 3}, 14},
		{[]int64{0, 1, 0}, []int64{1, 3, 1}, 21}, {[]int64{0, 1, 1, 0, 0}, []int64{1, 3, 2, 0, 0}, 28},
		{[]int64{1, 1}, []int64{2, 3}, 26}, {[]int64{1, 0, 1}, []int64{2, 0, 2}, 27},
	} {
		wantLift(t, "free", g, c.walk, c.path)
		wantPath(t, "free", g, c.path, c.walk, c.cost)
	}
	for _, path := range [][]int64{{0}, {3}, {0, 0}, {0, 2}, {1, 0}, {1, 2}, {2, 1}, {2, 2}, {1, 3, 0}} {
		wantPath(t, "no path", g, path, nil, -1)
	}
	g.Start = []int64{0, 3}
	wantLift(t, "other starts", g, []int64{0, 1, 0}, []int64{0, 2, 0})
	wantLift(t, "other starts", g, []int64{1, 0, 1}, []int64{3, 1, 3})
	wantPath(t, "other starts", g, []int64{3, 1, 3}, []int64{1, 0, 1}, 31)
	wantPath(t, "no longer a start", g, []int64{1, 1}, nil, -1)
}

func TestPathsOfMostVertices(t *testing.T) {
	loop := loopGraph(impl.MaxNumber, impl.MaxArcCost)
	long := make([]int64, impl.MaxWalk)
	wantLift(t, "MaxWalk edges", loop, long, long)
	wantPath(t, "MaxWalk vertices", loop, long, long, 1048576+9999*3145728)
	long = append(long, 0)
	wantLift(t, "one more", loop, long, nil)
	wantPath(t, "one more", loop, long, nil, -1)
	wantLift(t, "far more", loop, make([]int64, 5_000_000), nil)
	wantPath(t, "far more", loop, make([]int64, 5_000_000), nil, -1)
	wantLift(t, "MaxWalk edges, the last does not exist", loop, append(make([]int64, impl.MaxWalk-1), 1), nil)
	wantPath(t, "MaxWalk vertices, the last does not exist", loop, append(make([]int64, impl.MaxWalk-1), 1), nil, -1)

	n := netOf(t, 3, "way 1 b 1 5 2 7 3", "uturn 11", "no 1 1 by 1 1")
	g := compiled(t, n)
	walk := make([]int64, impl.MaxWalk)
	for i := range walk {
		walk[i] = int64(i % 2)
	}
	path := impl.LiftWalk(g, walk)
	wantPath(t, "to and fro", g, path, walk, 5*impl.MaxWalk+11*(impl.MaxWalk-1))
	if verdict := impl.Judge(n, walk); verdict.Code != 0 || verdict.Cost != impl.PathCost(g, path) {
		t.Errorf("%+v", verdict)
	}
	wantLift(t, "to and fro, one edge more", g, append(walk, 0), nil)
	wantPath(t, "to and fro, one vertex more", g, append(path, path[0]), nil, -1)
}

func TestPathsInTime(t *testing.T) {
	// The first ten vertices have an arc to each of the 4000 edges.
	g := blockGraph(impl.MaxEdges, impl.MaxEdges, impl.MaxArcs)
	walk := make([]int64, impl.MaxWalk)
	for i := range walk {
		walk[i] = 9 - int64(i%10)
	}
	var path, edges []int64
	var cost int64
	within(t, 20*time.Second, func() {
		for range 50 {
			path = impl.LiftWalk(g, walk)
			edges, cost = impl.PathEdges(g, path), impl.PathCost(g, path)
		}
	})
	if !slices.Equal(path, walk) || !slices.Equal(edges, walk) || cost != 0 {
		t.Errorf("%d vertices, %d edges, cost %d", len(path), len(edges), cost)
	}
}

package tests

import (
	"math/rand"
	"slices"
	"strings"
	"testing"
	"time"

	"loop.example/s0019/impl"
)

func TestGraphConstants(t *testing.T) {
	got := []int{impl.MaxArcs, impl.MaxArcCost, impl.ErrNet, impl.ErrArcs}
	if want := []int{40000, 3145728, 14, 15}; !slices.Equal(got, want) {
		t.Errorf("%v, want %v", got, want)
	}
}

// fork has the edges 0 (1 to 2), 1 (4 to 2), 2 (2 to 3), 3 (3 to 5) and 4 (3 to 6).
var fork = []string{"way 1 f 1 10 2", "way 2 f 4 20 2", "way 3 f 2 30 3", "way 4 f 3 40 5", "way 5 f 3 50 6"}

// lane has the edges 0, 1 (1 to 2 and back), 2, 3 (2 to 3 and back).
var lane = []string{"way 1 b 1 5 2", "way 2 b 2 7 3"}

func TestCompile(t *testing.T) {
	cases := []struct {
		name  string
		lines []string
		want  []string
	}{
		{"no way", nil, nil},
		{"one edge, and no arc", []string{"way 1 f 1 5 2"}, []string{"*0/0:"}},
		{"edges apart", []string{"way 1 f 1 5 2", "way 2 f 3 7 4"}, []string{"*0/0:", "*1/0:"}},
		{"a joined pair, and no arc to the first", []string{"way 1 f 1 5 2", "way 2 f 2 7 3"}, []string{"*0/0: 1/0+7", "*1/0:"}},
		{"the example of the network text", []string{"way 10 b 1 5 2", "way 11 f 2 7 3", "no 4 10 at 2 11", "turn 10 11 3", "uturn 9"},
			[]string{"*0/1: 1/0+14", "*1/0: 0/1+14", "*2/0:"}},
		{"a weight is that of the edge gone to", lane,
			[]string{"*0/0: 1/0+5 2/0+7", "*1/0: 0/0+5", "*2/0: 3/0+7", "*3/0: 1/0+5 2/0+7"}},
		{"a turn cost holds one way", append([]string{"turn 1 2 100"}, lane...),
			[]string{"*0/0: 1/0+5 2/0+107", "*1/0: 0/0+5", "*2/0: 3/0+7", "*3/0: 1/0+5 2/0+7"}},
		{"a U-turn", append([]string{"uturn 1000"}, lane...),
			[]string{"*0/0: 1/0+1005 2/0+7", "*1/0: 0/0+1005", "*2/0: 3/0+1007", "*3/0: 1/0+5 2/0+1007"}},
		{"a turn cost and a U-turn in one arc", append([]string{"uturn 1000", "turn 2 2 100"}, lane...),
			[]string{"*0/0: 1/0+1005 2/0+7", "*1/0: 0/0+1005", "*2/0: 3/0+1107", "*3/0: 1/0+5 2/0+1107"}},
		{"a turn cost within a way without a U-turn", []string{"way 1 f 1 5 2 6 3", "turn 1 1 100", "uturn 1000"}, []string{"*0/0: 1/0+106", "*1/0:"}},
		{"a segment that begins where it ends", []string{"way 1 b 1 5 1", "uturn 1000", "turn 1 1 100"},
			[]string{"*0/0: 0/0+105 1/0+1105", "*1/0: 0/0+1105 1/0+105"}},
		{"such a one-way segment turns back at no cost", []string{"way 1 f 1 5 1", "uturn 1000"}, []string{"*0/0: 0/0+5"}},
		{"two ways between the same nodes are no twins", []string{"way 1 f 1 5 2", "way 2 f 2 7 1", "uturn 1000"}, []string{"*0/0: 1/0+7", "*1/0: 0/0+5"}},
		{"all costs at their most", []string{"way 1 b 1 1048576 1", "uturn 1048576", "turn 1 1 1048576"},
			[]string{"*0/0: 0/0+2097152 1/0+3145728", "*1/0: 0/0+3145728 1/0+2097152"}},
		{"a rule forbids an arc", append([]string{"no 1 1 at 2 3"}, fork...),
			[]string{"*0/1:", "*1/0: 2/0+30", "*2/0: 3/0+40 4/0+50", "*3/0:", "*4/0:"}},
		{"a rule looks back over a way: one edge in two states", append([]string{"no 1 1 by 3 4"}, fork...),
			[]string{"*0/1: 2/2+30", "*1/0: 2/0+30", "*2/0: 3/0+40 4/0+50", "2/2: 4/0+50", "*3/0:", "*4/0:"}},
		{"the only arc left", append([]string{"only 1 1 by 3 4"}, fork...),
			[]string{"*0/1: 2/2+30", "*1/0: 2/0+30", "*2/0: 3/0+40 4/0+50", "2/2: 3/0+40", "*3/0:", "*4/0:"}},
		{"one edge in three states", append([]string{"only 1 1 by 3 4", "no 2 2 by 3 4"}, fork...),
			[]string{"*0/1: 2/3+30", "*1/2: 2/4+30", "*2/0: 3/0+40 4/0+50", "2/3: 3/0+40", "2/4: 4/0+50", "*3/0:", "*4/0:"}},
		{"two rules leave nothing", append([]string{"only 1 1 by 3 4", "only 2 1 by 3 5"}, fork...),
			[]string{"*0/1: 2/2+30", "*1/0: 2/0+30", "*2/0: 3/0+40 4/0+50", "2/2:", "*3/0:", "*4/0:"}},
		{"a rule on the first edge holds for its start as well", append([]string{"only 1 3 at 3 5"}, fork...),
			[]string{"*0/0: 2/1+30", "*1/0: 2/1+30", "*2/1: 4/0+50", "*3/0:", "*4/0:"}},
		{"a state that no walk reaches", append([]string{"no 1 1 at 2 3", "only 2 1 by 3 4"}, fork...),
			[]string{"*0/1:", "*1/0: 2/0+30", "*2/0: 3/0+40 4/0+50", "*3/0:", "*4/0:"}},
		{"a rule against turning back", append([]string{"no 1 1 at 2 1", "uturn 9"}, lane...),
			[]string{"*0/1: 2/0+7", "*1/0: 0/1+14", "*2/0: 3/0+16", "*3/0: 1/0+5 2/0+16"}},
		{"a rule to turn back", append([]string{"only 1 1 at 2 1", "uturn 9"}, lane...),
			[]string{"*0/1: 1/0+14", "*1/0: 0/1+14", "*2/0: 3/0+16", "*3/0: 1/0+5 2/0+16"}},
		{"relations that are dropped forbid nothing", append([]string{"no 1 1 at 3 3", "only 2 4 at 5 5", "no 3 1 by 4 5"}, fork...),
			[]string{"*0/0: 2/0+30", "*1/0: 2/0+30", "*2/0: 3/0+40 4/0+50", "*3/0:", "*4/0:"}},
		{"arcs by the edge they go to, not by state", []string{"way 1 f 1 1 1", "way 2 f 1 2 1", "no 1 2 at 1 1"},
			[]string{"*0/0: 0/0+1 1/1+2", "*1/1: 1/1+2"}},
		{"a rule that overlaps itself", []string{"way 1 f 1 1 1", "way 2 f 1 2 1", "no 1 1 by 1 1"},
			[]string{"*0/1: 0/2+1 1/0+2", "0/2: 1/0+2", "*1/0: 0/1+1 1/0+2"}},
	}
	for _, c := range cases {
		g := compiled(t, netOf(t, 6, c.lines...))
		if got := drawn(g); got != strings.Join(c.want, "\n") {
			t.Errorf("%s:\n%s\nwant\n%s", c.name, got, strings.Join(c.want, "\n"))
		}
		if !impl.ValidGraph(g) {
			t.Errorf("%s: not valid", c.name)
		}
	}
}

func TestCompileWeights(t *testing.T) {
	g := compiled(t, netOf(t, 6, append([]string{"only 1 1 by 3 4", "turn 1 3 900", "uturn 70"}, fork...)...))
	if want := []int64{10, 20, 30, 40, 50}; !slices.Equal(g.Weight, want) {
		t.Errorf("Weight %v, want %v", g.Weight, want)
	}
	if want := []int64{0, 1, 2, 4, 5}; !slices.Equal(g.Start, want) {
		t.Errorf("Start %v, want %v", g.Start, want)
	}
	if want := []int64{0, 1, 2, 4, 5, 5, 5}; !slices.Equal(g.First, want) {
		t.Errorf("First %v, want %v", g.First, want)
	}
	empty := impl.Graph{First: []int64{0}}
	for _, n := range []impl.Net{{}, {Nodes: []int64{1, 2}}, {Nodes: []int64{0}, UTurn: 5}} {
		if got := compiled(t, n); !sameGraph(got, empty) {
			t.Errorf("without a way: %+v", got)
		}
	}
}

func TestCompileRefusesNets(t *testing.T) {
	for _, c := range brokenNets() {
		wantNoGraph(t, c.rule, c.net, impl.ErrNet)
	}
	tooMuch := tangle(impl.MaxWays+1, 1, false)
	wantNoGraph(t, "not valid, and too many arcs", tooMuch, impl.ErrNet)
}

// wheel has a rule of vias edges between two for each number: closed ways of that many segments in all lead from the hub back to it.
func wheel(vias ...int) impl.Net {
	n := impl.Net{Nodes: []int64{0}, Ways: []impl.Way{{ID: 0, Nodes: []int64{0, 0}, Weights: []int64{1}}}}
	for i, count := range vias {
		rel := impl.Relation{ID: int64(i), From: 0, To: 0}
		for count > 0 {
			size := min(count, impl.MaxSegs)
			count -= size
			id := int64(len(n.Ways))
			way := impl.Way{ID: id, Nodes: []int64{0}, Weights: make([]int64, size)}
			for range size - 1 {
				node := int64(len(n.Nodes))
				n.Nodes = append(n.Nodes, node)
				way.Nodes = append(way.Nodes, node)
			}
			way.Nodes = append(way.Nodes, 0)
			n.Ways = append(n.Ways, way)
			rel.Ways = append(rel.Ways, id)
		}
		n.Relations = append(n.Relations, rel)
	}
	return n
}

func TestCompileCountsStates(t *testing.T) {
	// The words: nothing, the hub's own edge, and what each rule adds to it.
	n := wheel(400, 400, 400, 400, 393)
	if got := len(built(t, impl.Resolve(n).Rules...).Parent); got != impl.MaxStates {
		t.Fatalf("%d states", got)
	}
	g := compiled(t, n)
	// Each word of two edges or more is a second vertex of its last edge, but for the five whole rules: they are bad.
	if edges := len(g.Start); len(g.EdgeOf) != edges+impl.MaxStates-2-5 || edges != 1994 {
		t.Errorf("%d edges, %d vertices", edges, len(g.EdgeOf))
	}
	if !impl.ValidGraph(g) {
		t.Error("not valid")
	}
	wantNoGraph(t, "one word too many", wheel(400, 400, 400, 400, 394), impl.ErrStates)
	n = wheel(400, 400, 400, 400, 394)
	for id := range int64(300) {
		n.Ways = append(n.Ways, impl.Way{ID: 5000 + id, Nodes: []int64{0, 0}, Weights: []int64{0}})
	}
	wantNoGraph(t, "one word and many arcs too many", n, impl.ErrStates)
	n.Relations = nil
	wantNoGraph(t, "many arcs too many", n, impl.ErrArcs)
}

func TestCompileCountsArcs(t *testing.T) {
	// 200 edges, each joined to all.
	for _, n := range []impl.Net{tangle(200, 1, false), tangle(2, 100, false), tangle(1, 100, true), tangle(100, 1, true)} {
		g := compiled(t, n)
		if len(g.To) != impl.MaxArcs || len(g.EdgeOf) != 200 || !impl.ValidGraph(g) {
			t.Errorf("%d arcs, %d vertices", len(g.To), len(g.EdgeOf))
		}
		n.Ways = append(n.Ways, impl.Way{ID: 9999, Nodes: []int64{1, 1}, Weights: []int64{1}})
		wantNoGraph(t, "201 edges", n, impl.ErrArcs)
	}
	// 40401 pairs are joined; each rule takes one arc away.
	n := tangle(201, 1, false)
	for id := range int64(401) {
		n.Relations = append(n.Relations, impl.Relation{ID: id, From: id / 3, To: id % 3, ViaNode: true, Node: 1})
	}
	g := compiled(t, n)
	if len(g.To) != impl.MaxArcs || len(g.EdgeOf) != 201 || !impl.ValidGraph(g) {
		t.Errorf("%d arcs, %d vertices", len(g.To), len(g.EdgeOf))
	}
	n.Relations = n.Relations[:400]
	wantNoGraph(t, "one arc too many", n, impl.ErrArcs)
	// An edge out to another node has no arc of its own, but 200 more go to it.
	n = tangle(200, 1, false)
	n.Nodes = append(n.Nodes, 2)
	n.Ways = append(n.Ways, impl.Way{ID: 9999, Nodes: []int64{1, 2}, Weights: []int64{1}})
	wantNoGraph(t, "200 arcs too many, to one more edge", n, impl.ErrArcs)
	n.Ways[200].Nodes = []int64{2, 2}
	wantNoGraph(t, "one arc too many, of a last edge apart", n, impl.ErrArcs)
	n.Nodes = append(n.Nodes, 3)
	n.Ways[200].Nodes = []int64{2, 3}
	if got := len(compiled(t, n).To); got != impl.MaxArcs {
		t.Errorf("an edge apart brings no arc: %d", got)
	}
}

// avenue goes on and on in both directions, and count times only straight on over two ways.
func avenue(count int) impl.Net {
	n := impl.Net{Nodes: []int64{0}, UTurn: 3}
	for id := range int64(impl.MaxNodes) {
		next := (id + 1) % impl.MaxNodes
		if next > 0 {
			n.Nodes = append(n.Nodes, next)
		}
		n.Ways = append(n.Ways, impl.Way{ID: id, Both: true, Nodes: []int64{id, next}, Weights: []int64{id % 7}})
		if id%2 == 0 {
			n.Turns = append(n.Turns, impl.TurnCost{From: id, To: next, Cost: id % 5})
		}
	}
	for id := range int64(count) {
		n.Relations = append(n.Relations, impl.Relation{ID: id, Only: true, From: id, To: id + 2, Ways: []int64{id + 1}})
	}
	return n
}

func TestCompileLargest(t *testing.T) {
	n := avenue(999)
	var g impl.Graph
	within(t, 10*time.Second, func() { g = impl.Compile(n).Graph })
	if len(g.Start) != impl.MaxEdges || len(g.EdgeOf) != impl.MaxEdges+999 || !impl.ValidGraph(g) {
		t.Fatalf("%d edges, %d vertices", len(g.Start), len(g.EdgeOf))
	}
	// Each of the 999 vertices with a rule has one arc; all others have two.
	if len(g.To) != 2*len(g.EdgeOf)-999 {
		t.Errorf("%d arcs at %d vertices", len(g.To), len(g.EdgeOf))
	}
	wantNoGraph(t, "one rule more", avenue(1000), impl.ErrStates)
	r := rand.New(rand.NewSource(17))
	road := impl.BuildRoad(n)
	legal, illegal := 0, 0
	for range 150 {
		walk := []int64{int64(r.Intn(impl.MaxEdges))}
		turn := []int{3, 30, 3000}[r.Intn(3)]
		for range r.Intn(400) {
			head := road.Edges[walk[len(walk)-1]].Head
			next := road.Out[road.First[head]:road.First[head+1]]
			back := road.Edges[walk[len(walk)-1]].Twin
			to := next[0]
			if (to == back) != (r.Intn(turn) == 0) {
				to = next[1]
			}
			walk = append(walk, to)
		}
		verdict := impl.Judge(n, walk)
		path := impl.LiftWalk(g, walk)
		if verdict.Code == 0 {
			legal++
			wantPath(t, "the avenue", g, path, walk, verdict.Cost)
			continue
		}
		illegal++
		if len(path) != 0 {
			t.Fatalf("%v: %+v, and lifted", walk, verdict)
		}
		wantPath(t, "its beginning", g, impl.LiftWalk(g, walk[:verdict.At]), walk[:verdict.At], verdict.Cost)
	}
	if legal < 30 || illegal < 30 {
		t.Errorf("%d legal, %d illegal", legal, illegal)
	}
}

func TestCompileGivesUpInTime(t *testing.T) {
	within(t, 10*time.Second, func() {
		wantNoGraph(t, "millions of arcs", tangle(impl.MaxWays, 2, false), impl.ErrArcs)
		wantNoGraph(t, "millions of arcs in both directions", tangle(20, 100, true), impl.ErrArcs)
	})
	// A thousand edges lead into a node that thousands leave, and each must go on by the first of them.
	n := impl.Net{Nodes: []int64{1, 2, 3}}
	for id := range int64(1000) {
		n.Ways = append(n.Ways, impl.Way{ID: id, Nodes: []int64{1, 2}, Weights: []int64{1}})
		n.Relations = append(n.Relations, impl.Relation{ID: id, Only: true, From: id, To: 1000, ViaNode: true, Node: 2})
	}
	for id := int64(1000); id < impl.MaxWays; id++ {
		n.Ways = append(n.Ways, impl.Way{ID: id, Nodes: []int64{2, 3}, Weights: []int64{1}})
	}
	var g impl.Graph
	within(t, 10*time.Second, func() { g = impl.Compile(n).Graph })
	if len(g.EdgeOf) != impl.MaxWays || len(g.To) != 1000 {
		t.Errorf("%d vertices, %d arcs", len(g.EdgeOf), len(g.To))
	}
}

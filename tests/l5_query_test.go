package tests

import (
	"fmt"
	"math"
	"math/rand"
	"slices"
	"strings"
	"testing"
	"time"

	"loop.example/s0019/impl"
)

// wantLoaded holds Load against ParseNet and Compile, and answers its code.
func wantLoaded(t *testing.T, given string) int64 {
	t.Helper()
	want := impl.Loaded{}
	parsed := impl.ParseNet([]byte(given))
	if parsed.Code != 0 {
		want.Code, want.Line = parsed.Code, parsed.Line
	} else {
		c := impl.Compile(parsed.Net)
		want.Code, want.Graph = c.Code, c.Graph
	}
	got := impl.Load([]byte(given))
	if got.Code != want.Code || got.Line != want.Line || !sameGraph(got.Graph, want.Graph) {
		t.Fatalf("%q: code %d line %d with %d vertices, want code %d line %d with %d vertices", given[:min(len(given), 200)],
			got.Code, got.Line, len(got.Graph.EdgeOf), want.Code, want.Line, len(want.Graph.EdgeOf))
	}
	return got.Code
}

func TestLoad(t *testing.T) {
	for _, c := range []struct {
		name, text string
		code, line int64
	}{
		{"the sample", sampleText, 0, 0},
		{"the empty network", "roadnet 1\n", 0, 0},
		{"nothing", "", impl.ErrNoEnd, 0},
		{"too long", strings.Repeat("\n", impl.MaxText+1), impl.ErrTooLong, 0},
		{"another header", "roadnet 2\n", impl.ErrHeader, 1},
		{"an empty line", "roadnet 1\nnode 1\n\n", impl.ErrShape, 3},
		{"no word", "roadnet 1\nroad 1\n", impl.ErrWord, 2},
		{"too few fields", "roadnet 1\nnode\n", impl.ErrCount, 2},
		{"no direction", "roadnet 1\nway 1 x 1 1 1\n", impl.ErrKey, 2},
		{"no number", "roadnet 1\nnode 01\n", impl.ErrNumber, 2},
		{"a repeat", "roadnet 1\nnode 1\nuturn 3\nnode 1\n", impl.ErrRepeat, 4},
		{"a dangling name", "roadnet 1\nnode 1\nway 1 f 1 1 2\n", impl.ErrDangling, 3},
		{"too many nodes", "roadnet 1\n" + nodeLines(impl.MaxNodes+1), impl.ErrLimit, 0},
		{"as many states as may be", textOf(wheel(400, 400, 400, 400, 393)), 0, 0},
		{"one state more", textOf(wheel(400, 400, 400, 400, 394)), impl.ErrStates, 0},
		{"as many arcs as may be", textOf(tangle(200, 1, false)), 0, 0},
		{"more arcs", textOf(tangle(201, 1, false)), impl.ErrArcs, 0},
	} {
		got := impl.Load([]byte(c.text))
		if got.Code != c.code || got.Line != c.line {
			t.Errorf("%s: code %d line %d, want %d %d", c.name, got.Code, got.Line, c.code, c.line)
		}
		if c.code != 0 && !sameGraph(got.Graph, impl.Graph{}) {
			t.Errorf("%s: refused, and a graph of %d vertices", c.name, len(got.Graph.EdgeOf))
		}
		if c.code == 0 && !impl.ValidGraph(got.Graph) {
			t.Errorf("%s: the graph is not valid", c.name)
		}
		wantLoaded(t, c.text)
		if c.code == 0 {
			continue
		}
		for _, pair := range [][2]int64{{0, 0}, {0, 1}, {-1, 0}, {0, -1}, {1 << 40, 2}, {math.MinInt64, math.MaxInt64}} {
			wantRoute(t, c.name, impl.Query([]byte(c.text), pair[0], pair[1]), impl.Route{Code: impl.RouteNotLoaded})
		}
	}
	// No text gives ErrNet: what ParseNet reads is valid.
	if got := impl.Load(nil); got.Code != impl.ErrNoEnd || got.Line != 0 || !sameGraph(got.Graph, impl.Graph{}) {
		t.Errorf("nil: %+v", got)
	}
}

func TestLoadOfDrawnTexts(t *testing.T) {
	r := rand.New(rand.NewSource(24))
	met := map[int64]int{}
	for range 8000 {
		n := crowdedNet(r)
		lines := strings.Split(strings.TrimSuffix(textOf(n), "\n"), "\n")[1:]
		r.Shuffle(len(lines), func(i, j int) { lines[i], lines[j] = lines[j], lines[i] })
		given := text(lines...)
		if wantLoaded(t, given) != 0 || !sameGraph(impl.Load([]byte(given)).Graph, impl.Load([]byte(textOf(n))).Graph) {
			t.Fatalf("%q: the order of the lines plays a part", given)
		}
		for range 1 + r.Intn(2) {
			if given != "" {
				given = damage(r, given)
			}
		}
		code := wantLoaded(t, given)
		met[code]++
		if code != 0 {
			wantRoute(t, given, impl.Query([]byte(given), int64(r.Intn(9)-2), int64(r.Intn(9)-2)), impl.Route{Code: 3})
		}
	}
	for _, code := range []int64{2, 3, 4, 5, 6, 8, 9, 10} {
		if met[code] < 10 {
			t.Errorf("code %d was met only %d times", code, met[code])
		}
	}
}

func TestQuery(t *testing.T) {
	// Edges: 0 (1 to 2), 1 (2 to 3), 2 (3 to 4), 3 (4 to 5), then the ways round: 4 (2 to 4), 5 (3 to 5).
	street := []string{"way 1 f 1 1 2", "way 2 f 2 1 3", "way 3 f 3 1 4", "way 4 f 4 1 5", "way 5 f 2 50 4", "way 6 f 3 30 5"}
	with := func(lines ...string) string { return onNodes(9, append(lines, street...)...) }
	none, bad := impl.Route{Code: impl.RouteNone}, impl.Route{Code: impl.RouteBadQuery}
	for _, c := range []struct {
		name, text string
		s, t       int64
		want       impl.Route
	}{
		{"without a rule", with(), 0, 3, found(4, 0, 1, 2, 3)},
		{"one edge", with(), 2, 2, found(1, 2)},
		{"no way back", with(), 3, 0, none},
		{"past the last edge", with(), 0, 6, bad},
		{"edge -1", with(), -1, 0, bad},
		{"forbidden at a node", with("no 1 1 at 2 2"), 0, 3, found(52, 0, 4, 3)},
		{"forbidden at a node, from elsewhere", with("no 1 1 at 2 2"), 1, 3, found(3, 1, 2, 3)},
		{"forbidden at a node, no way round", with("no 1 1 at 2 2"), 0, 1, none},
		{"forbidden by a way", with("no 1 1 by 2 3"), 0, 3, found(52, 0, 4, 3)},
		{"forbidden by a way, for those who came that way", with("no 1 1 by 2 3"), 1, 3, found(3, 1, 2, 3)},
		{"forbidden by two ways", with("no 1 1 by 2 3 4"), 0, 3, found(52, 0, 4, 3)},
		{"forbidden by two ways, all but the last is free", with("no 1 1 by 2 3 4"), 0, 2, found(3, 0, 1, 2)},
		{"forbidden by two ways, the rest is free", with("no 1 1 by 2 3 4"), 1, 3, found(3, 1, 2, 3)},
		{"only, at a node", with("only 1 1 at 2 5"), 0, 3, found(52, 0, 4, 3)},
		{"only, by a way", with("only 1 1 by 2 6"), 0, 3, found(52, 0, 4, 3)},
		{"only, by a way, where it leads", with("only 1 1 by 2 6"), 0, 5, found(32, 0, 1, 5)},
		{"only, for another's drives", with("only 1 1 by 2 6"), 1, 2, found(2, 1, 2)},
		{"only, and forbidden: it ends there", with("only 1 1 at 2 2", "no 2 1 at 2 2"), 0, 3, none},
		{"only, and forbidden: the end itself", with("only 1 1 by 2 3", "no 2 1 by 2 3"), 0, 1, found(2, 0, 1)},
		{"turn costs", with("turn 1 2 100", "turn 2 3 7"), 0, 3, found(52, 0, 4, 3)},
		{"a turn cost on all ways", with("turn 1 2 10", "turn 2 3 20", "turn 3 4 100", "turn 1 5 500"), 0, 3, found(134, 0, 1, 2, 3)},
		// Edges: 0, 1 (1 to 2 and back), 2 (2 to 3), 3 (2 to 2).
		{"one edge twice, by turning back", onNodes(3, "way 1 b 1 5 2", "way 2 f 2 7 3", "no 1 1 at 2 2", "no 2 1 by 1 1"), 0, 2, none},
		{"a loop to forget", onNodes(3, "way 1 b 1 5 2", "way 2 f 2 7 3", "way 3 f 2 4 2", "no 1 1 at 2 2"), 0, 2, found(16, 0, 3, 2)},
		{"one edge twice", onNodes(5, "way 1 f 1 1 2", "way 2 f 2 2 3", "way 3 f 3 3 2", "way 4 f 3 4 4", "no 1 1 by 2 4"), 0, 3, found(12, 0, 1, 2, 1, 3)},
		{"one edge twice, at no cost", onNodes(5, "way 1 f 1 0 2", "way 2 f 2 0 3", "way 3 f 3 0 2", "way 4 f 3 0 4", "no 1 1 by 2 4"), 0, 3, found(0, 0, 1, 2, 1, 3)},
		{"one edge three times", onNodes(5, "way 1 f 1 1 2", "way 2 f 2 2 3", "way 3 f 3 3 2", "way 4 f 3 4 4", "no 1 1 by 2 4", "no 2 1 by 2 3 2 4"), 0, 3, found(17, 0, 1, 2, 1, 2, 1, 3)},
		{"the first edge again", onNodes(3, "way 1 f 1 1 2", "way 2 f 2 2 1", "way 3 f 2 4 3", "no 1 2 at 1 1"), 0, 2, found(5, 0, 2)},
		{"turning back costs", onNodes(3, "way 1 b 1 5 2 6 3", "uturn 100"), 0, 1, found(110, 0, 1)},
		{"turning back where the drive ends anyway", onNodes(3, "way 1 b 1 5 2 6 3", "uturn 100"), 2, 1, found(117, 2, 3, 1)},
		{"a way round is cheaper than turning back", onNodes(3, "way 1 b 1 5 2", "way 2 f 2 20 2", "uturn 21"), 0, 1, found(30, 0, 2, 1)},
		{"as cheap as turning back", onNodes(3, "way 1 b 1 5 2", "way 2 f 2 20 2", "uturn 20"), 0, 1, found(30, 0, 1)},
		{"all costs at their most", onNodes(1, "way 1 b 1 1048576 1", "uturn 1048576", "turn 1 1 1048576"), 0, 1, found(4194304, 0, 1)},
	} {
		wantRoute(t, c.name, impl.Query([]byte(c.text), c.s, c.t), c.want)
		if c.want.Code == bad.Code {
			continue
		}
		n := impl.ParseNet([]byte(c.text)).Net
		if best := refDrives(n, c.s)[c.t]; !sameRoute(best, c.want) {
			t.Errorf("%s: the second reading says %+v", c.name, best)
		}
	}
}

// A second reading of promise 15: drives over edges and what each rule remembers of the drive so far, without the automaton or the graph.

// A refDrive is a legal drive. matched has for each rule the lengths of its beginnings with which the drive ends.
type refDrive struct {
	impl.Route
	matched [][]int
}

func (d refDrive) key() string {
	return fmt.Sprint(d.Edges[len(d.Edges)-1], d.matched)
}

// on answers the drive with one edge more, and false if a rule forbids it.
func (d refDrive) on(rules []impl.Rule, edge, cost int64) (refDrive, bool) {
	next := refDrive{Route: found(d.Cost+cost, append(slices.Clone(d.Edges), edge)...)}
	for i, rule := range rules {
		last := len(rule.Seq) - 1
		begun := []int{0}
		if d.matched != nil {
			begun = append(begun, d.matched[i]...)
		}
		var longer []int
		for _, size := range begun {
			switch fits := rule.Seq[size] == edge; {
			case fits && size == last && !rule.Only, !fits && size == last && rule.Only:
				return refDrive{}, false
			case fits && size < last:
				longer = append(longer, size+1)
			}
		}
		next.matched = append(next.matched, longer)
	}
	return next, true
}

// refDrives answers the best drive from one edge to each edge.
func refDrives(n impl.Net, s int64) []impl.Route {
	road, rules := refRoad(n), refResolve(n).Rules
	best := slices.Repeat([]impl.Route{{Code: 1}}, len(road.Edges))
	begin, _ := refDrive{}.on(rules, s, road.Edges[s].Weight)
	waiting := []refDrive{begin}
	done := map[string]int{}
	for len(waiting) > 0 {
		least := 0
		for i, d := range waiting {
			if refBetter(d.Route, waiting[least].Route) {
				least = i
			}
		}
		d := waiting[least]
		waiting = slices.Delete(waiting, least, least+1)
		if done[d.key()] == 1 {
			continue
		}
		done[d.key()] = 1
		from := d.Edges[len(d.Edges)-1]
		if best[from].Code == 1 {
			best[from] = d.Route
		}
		for f, to := range road.Edges {
			if road.Edges[from].Head != to.Tail {
				continue
			}
			step := refCost(n, road, []int64{from, int64(f)}) - road.Edges[from].Weight
			if longer, ok := d.on(rules, int64(f), step); ok && done[longer.key()] == 0 {
				waiting = append(waiting, longer)
			}
		}
	}
	return best
}

// cheapNet is a crowded network in which costs are low, so that drives are often equal.
func cheapNet(r *rand.Rand) impl.Net {
	n := crowdedNet(r)
	span := 1 + r.Intn(3)
	for _, way := range n.Ways {
		for i := range way.Weights {
			way.Weights[i] = int64(r.Intn(span))
		}
	}
	for i := range n.Turns {
		n.Turns[i].Cost = int64(r.Intn(span))
	}
	n.UTurn = int64(r.Intn(span))
	return n
}

// windingNet has rules along its own drives, so that many a drive must go round before it may go on.
func windingNet(r *rand.Rand) impl.Net {
	n := impl.Net{Nodes: run(1, 1, 2+r.Intn(3))}
	node := func() int64 { return n.Nodes[r.Intn(len(n.Nodes))] }
	for id := range int64(3 + r.Intn(5)) {
		n.Ways = append(n.Ways, impl.Way{ID: id, Nodes: []int64{node(), node()}, Weights: []int64{int64(r.Intn(3))}})
	}
	for id := range int64(4 + r.Intn(14)) {
		drive := []int64{int64(r.Intn(len(n.Ways)))}
		for size := 3 + r.Intn(3); len(drive) < size; {
			joined := slices.DeleteFunc(run(0, 1, len(n.Ways)), func(way int64) bool {
				return n.Ways[way].Nodes[0] != n.Ways[drive[len(drive)-1]].Nodes[1]
			})
			if len(joined) == 0 {
				break
			}
			drive = append(drive, joined[r.Intn(len(joined))])
		}
		if last := len(drive) - 1; last > 1 {
			n.Relations = append(n.Relations, impl.Relation{ID: id, Only: r.Intn(6) == 0, From: drive[0], To: drive[last], Ways: drive[1:last:last]})
		}
	}
	return n
}

func TestQueryAgainstReference(t *testing.T) {
	r := rand.New(rand.NewSource(25))
	met := map[string]int{}
	for i := range 2200 {
		n := []func(*rand.Rand) impl.Net{crowdedNet, cheapNet, windingNet, windingNet, windingNet}[i%5](r)
		road, rules := refRoad(n), refResolve(n).Rules
		free := copyNet(n)
		free.Relations = nil
		given, without := []byte(textOf(n)), []byte(textOf(free))
		count := int64(len(road.Edges))
		for range 3 {
			s := int64(r.Intn(len(road.Edges)))
			for to, want := range refDrives(n, s) {
				got := impl.Query(given, s, int64(to))
				if !sameRoute(got, want) {
					t.Fatalf("%s%d to %d: %+v, want %+v", given, s, to, got, want)
				}
				plain := impl.Query(without, s, int64(to))
				switch {
				case got.Code == 1 && plain.Code == 1:
					met["never any drive"]++
					continue
				case got.Code == 1:
					met["no legal drive"]++
					continue
				case got.Cost > plain.Cost:
					met["rules make it dearer"]++
				case !sameRoute(got, plain):
					met["rules make it another"]++
				}
				if !refLegal(road, rules, got.Edges) || refCost(n, road, got.Edges) != got.Cost || got.Edges[0] != s || got.Edges[len(got.Edges)-1] != int64(to) {
					t.Fatalf("%s%d to %d: %+v", given, s, to, got)
				}
				if sorted := slices.Sorted(slices.Values(got.Edges)); len(slices.Compact(sorted)) < len(got.Edges) {
					met["one edge twice"]++
				}
			}
		}
		for _, pair := range [][2]int64{{-1, 0}, {0, -1}, {count, 0}, {0, count}} {
			wantRoute(t, "outside", impl.Query(given, pair[0], pair[1]), impl.Route{Code: 2})
		}
	}
	for _, kind := range []string{"never any drive", "no legal drive", "rules make it dearer", "rules make it another", "one edge twice"} {
		if met[kind] < 100 {
			t.Errorf("%s: met only %d times", kind, met[kind])
		}
	}
}

// The promise itself: no legal walk of up to six edges is better than the route, and where there is one there is a route.
func TestNoWalkIsCheaper(t *testing.T) {
	r := rand.New(rand.NewSource(26))
	checked, walks := 0, 0
	for checked < 150 {
		n := cheapNet(r)
		road, rules := refRoad(n), refResolve(n).Rules
		if len(road.Edges) > 9 || len(rules) < 2 {
			continue
		}
		checked++
		given := []byte(textOf(n))
		routes := map[[2]int64]impl.Route{}
		for s := range road.Edges {
			for to := range road.Edges {
				routes[[2]int64{int64(s), int64(to)}] = impl.Query(given, int64(s), int64(to))
			}
		}
		var visit func(walk []int64)
		visit = func(walk []int64) {
			if !refLegal(road, rules, walk) {
				return
			}
			walks++
			here := found(refCost(n, road, walk), walk...)
			if route := routes[[2]int64{walk[0], walk[len(walk)-1]}]; route.Code != 0 || refBetter(here, route) {
				t.Fatalf("%s%+v, but %+v is better", given, route, here)
			}
			if p := road.Edges[walk[len(walk)-1]].Head; len(walk) < 6 {
				for _, next := range road.Out[road.First[p]:road.First[p+1]] {
					visit(append(slices.Clone(walk), next))
				}
			}
		}
		for s := range road.Edges {
			visit([]int64{int64(s)})
		}
	}
	if walks < 20000 {
		t.Errorf("only %d walks", walks)
	}
}

// Each street of the grid is a way of its own with one edge each way.
func grid(side int) impl.Net {
	n := impl.Net{UTurn: 2}
	for id := range int64(side * side) {
		n.Nodes = append(n.Nodes, id)
	}
	for id := range int64(side * side) {
		for _, next := range []int64{id + 1, id + int64(side)} {
			if next == id+1 && next%int64(side) == 0 || next >= int64(side*side) {
				continue
			}
			way := impl.Way{ID: int64(len(n.Ways)), Both: true, Nodes: []int64{id, next}, Weights: []int64{id * 7 % 4}}
			n.Ways = append(n.Ways, way)
		}
	}
	return n
}

func TestQueryOfALargeNet(t *testing.T) {
	n := grid(32)
	r := rand.New(rand.NewSource(27))
	for id := range int64(300) {
		from, to := int64(r.Intn(len(n.Ways))), int64(r.Intn(len(n.Ways)))
		for !slices.Contains(n.Ways[to].Nodes, n.Ways[from].Nodes[1]) {
			to = int64(r.Intn(len(n.Ways)))
		}
		n.Relations = append(n.Relations, impl.Relation{ID: id, Only: id%5 == 0, From: from, To: to, ViaNode: true, Node: n.Ways[from].Nodes[1]})
	}
	given := impl.EncodeNet(n)
	loaded := impl.Load(given)
	if loaded.Code != 0 || len(loaded.Graph.Start) < 3900 {
		t.Fatalf("code %d, %d edges", loaded.Code, len(loaded.Graph.Start))
	}
	count := int64(len(loaded.Graph.Start))
	want := refLabel(loaded.Graph, 0)
	within(t, 30*time.Second, func() {
		for _, to := range []int64{0, 1, 2, count / 2, count - 2, count - 1} {
			route := impl.Query(given, 0, to)
			if !sameRoute(route, want[to]) {
				t.Errorf("to %d: %+v, want %+v", to, route, want[to])
			}
			if verdict := impl.Judge(n, route.Edges); route.Code == 0 && (verdict.Code != 0 || verdict.Cost != route.Cost) {
				t.Errorf("to %d: %+v is %+v", to, route, verdict)
			}
		}
	})
	if len(want[count-1].Edges) < 40 {
		t.Errorf("a short drive across the grid: %+v", want[count-1])
	}
}

package tests

import (
	"math"
	"slices"
	"testing"
	"time"

	"loop.example/s0019/impl"
)

type judgeCase struct {
	name           string
	walk           []int64
	code, at, cost int64
}

func checkJudge(t *testing.T, n impl.Net, cases []judgeCase) {
	t.Helper()
	for _, c := range cases {
		if got := impl.Judge(n, c.walk); got != (impl.Verdict{Code: c.code, At: c.at, Cost: c.cost}) {
			t.Errorf("%s: %v gives %+v, want %d %d %d", c.name, c.walk[:min(len(c.walk), 20)], got, c.code, c.at, c.cost)
		}
	}
}

// Weights are powers of ten, so that a cost shows of what it is made.
// Edges: 0 of way 1 (1 to 2); 1, 2 of way 2 (2-3); 3, 4, 5 of way 3 (3 to 4 to 2 to 1); 6, 7 of way 4 (3-3); 8 of way 5 (2 to 2).
var places = []string{
	"way 1 f 1 1 2", "way 2 b 2 10 3", "way 3 f 3 100 4 100 2 100 1", "way 4 b 3 1000 3", "way 5 f 2 10000 2", "uturn 50000",
}

func TestJudgeConstants(t *testing.T) {
	verdicts := []int{impl.VerdictLegal, impl.VerdictNet, impl.VerdictSize, impl.VerdictUnknown, impl.VerdictApart, impl.VerdictNo, impl.VerdictOnly}
	if !slices.Equal(verdicts, []int{0, 1, 2, 3, 4, 5, 6}) {
		t.Error(verdicts)
	}
	drops := []int{impl.DropNone, impl.DropSeveral, impl.DropRepeat}
	if !slices.Equal(drops, []int{1, 2, 3}) || impl.MaxWalk != 10000 {
		t.Error(drops, impl.MaxWalk)
	}
}

func TestJudgeWithoutRules(t *testing.T) {
	checkJudge(t, netOf(t, 5, places...), []judgeCase{
		{"one edge", []int64{0}, 0, 1, 1},
		{"another", []int64{6}, 0, 1, 1000},
		{"all joined", []int64{0, 1, 3, 4, 5, 0}, 0, 6, 312},
		{"the last edge of all", []int64{0, 8}, 0, 2, 10001},
		{"nothing", nil, 2, 0, 0},
		{"an empty list", []int64{}, 2, 0, 0},
		{"an edge -1 first", []int64{-1}, 3, 0, 0},
		{"an edge -1 later", []int64{0, 1, -1, 3}, 3, 2, 11},
		{"one past the last edge", []int64{9}, 3, 0, 0},
		{"one past the last edge, later", []int64{0, 9}, 3, 1, 1},
		{"the lowest of all numbers", []int64{math.MinInt64}, 3, 0, 0},
		{"the highest of all numbers", []int64{0, math.MaxInt64}, 3, 1, 1},
		{"apart at once", []int64{0, 3}, 4, 1, 1},
		{"apart later", []int64{0, 1, 3, 5}, 4, 3, 111},
		{"the same edge again is not joined", []int64{0, 0}, 4, 1, 1},
		{"unknown, and then apart", []int64{0, 9, 3}, 3, 1, 1},
		{"apart, and then unknown", []int64{0, 3, 9}, 4, 1, 1},
	})
	checkJudge(t, impl.Net{}, []judgeCase{{"no edge at all", []int64{0}, 3, 0, 0}, {"nothing in nothing", nil, 2, 0, 0}})
}

func TestJudgeCosts(t *testing.T) {
	turns := []string{"turn 1 2 200000", "turn 2 2 300000", "turn 3 3 400000", "turn 4 4 700000", "turn 2 3 0", "turn 5 1 900000"}
	checkJudge(t, netOf(t, 5, slices.Concat(places, turns)...), []judgeCase{
		{"between two ways", []int64{0, 1}, 0, 2, 200011},
		{"within one way", []int64{3, 4, 5}, 0, 3, 800300},
		{"of 0", []int64{1, 3}, 0, 2, 110},
		{"none for this pair", []int64{5, 0}, 0, 2, 101},
		{"none the other way round", []int64{0, 8}, 0, 2, 10001},
		{"none for one edge", []int64{1}, 0, 1, 10},
		{"turning back beside a turn cost", []int64{1, 2}, 0, 2, 350020},
		{"turning back twice", []int64{1, 2, 1}, 0, 3, 700030},
		{"a loop again is no turning back", []int64{6, 6}, 0, 2, 702000},
		{"nor backward", []int64{7, 7}, 0, 2, 702000},
		{"a loop the other way is", []int64{6, 7}, 0, 2, 752000},
		{"and back", []int64{7, 6}, 0, 2, 752000},
		{"the edge that fails costs nothing", []int64{0, 1, 0}, 4, 2, 200011},
	})
	checkJudge(t, netOf(t, 5, places...), []judgeCase{
		{"turning back alone", []int64{1, 2}, 0, 2, 50020},
		{"turning back later", []int64{0, 1, 2, 8}, 0, 4, 60021},
	})
}

func TestJudgeNo(t *testing.T) {
	checkJudge(t, netOf(t, 5, slices.Concat(places, []string{"no 1 1 at 2 2", "no 2 2 by 3 1", "no 3 2 at 3 2", "no 4 5 at 2 5"})...), []judgeCase{
		{"at once", []int64{0, 1}, 5, 1, 1},
		{"in the middle", []int64{4, 5, 0, 1, 3}, 5, 3, 201},
		{"only its last edge", []int64{1, 3}, 0, 2, 110},
		{"the same last edge from elsewhere", []int64{4, 1}, 0, 2, 110},
		{"all but its last edge", []int64{1, 3, 4, 5}, 0, 4, 310},
		{"by a way", []int64{1, 3, 4, 5, 0}, 5, 4, 310},
		{"by a way, begun too late", []int64{3, 4, 5, 0}, 0, 4, 301},
		{"by a way, later", []int64{8, 1, 3, 4, 5, 0}, 5, 5, 10310},
		{"by a way, from another edge of its way", []int64{2, 1, 3, 4, 5, 0}, 5, 5, 50320},
		{"turning back is not exempt", []int64{1, 2}, 5, 1, 10},
		{"turning back elsewhere", []int64{2, 1}, 0, 2, 50020},
		{"an edge after itself", []int64{0, 8, 8}, 5, 2, 10001},
		{"an edge with another between", []int64{8, 1, 6, 2, 8}, 0, 5, 21020},
		{"the first of two", []int64{0, 1, 2}, 5, 1, 1},
	})
}

func TestJudgeOnly(t *testing.T) {
	checkJudge(t, netOf(t, 5, slices.Concat(places, []string{"only 1 1 at 2 2", "only 2 2 by 3 1"})...), []judgeCase{
		{"kept", []int64{0, 1}, 0, 2, 11},
		{"broken", []int64{0, 8}, 6, 1, 1},
		{"its beginning ends the walk", []int64{0}, 0, 1, 1},
		{"its beginning ends a longer walk", []int64{4, 5, 0}, 0, 3, 201},
		{"broken in the middle", []int64{4, 5, 0, 8, 8}, 6, 3, 201},
		{"not begun", []int64{4, 8}, 0, 2, 10100},
		{"by a way, kept", []int64{1, 3, 4, 5, 0}, 0, 5, 311},
		{"by a way, its beginning ends the walk", []int64{8, 1, 3, 4, 5}, 0, 5, 10310},
		{"by a way, left early", []int64{1, 3, 4, 8}, 0, 4, 10210},
	})
	checkJudge(t, netOf(t, 5, slices.Concat(places, []string{"way 6 f 1 1000 1", "only 2 2 by 3 1"})...), []judgeCase{
		{"by a way, broken", []int64{1, 3, 4, 5, 9}, 6, 4, 310},
		{"by a way, begun too late", []int64{3, 4, 5, 9}, 0, 4, 1300},
		{"by a way, kept and broken the next time", []int64{1, 3, 4, 5, 0, 1, 3, 4, 5, 9}, 6, 9, 621},
	})
	// What is asked for can lie in the middle of a way, or be the edge itself.
	checkJudge(t, netOf(t, 5, slices.Concat(places, []string{"only 1 3 at 4 3", "only 2 5 at 2 5"})...), []judgeCase{
		{"within one way", []int64{3, 4}, 0, 2, 200},
		{"an edge after itself", []int64{8, 8, 8}, 0, 3, 30000},
		{"and never out of it", []int64{0, 8, 8, 1}, 6, 3, 20001},
	})
}

func TestJudgeTwoReasons(t *testing.T) {
	n := netOf(t, 5, slices.Concat(places, []string{"only 1 1 at 2 2", "no 2 1 at 2 5", "no 3 1 at 2 2"})...)
	checkJudge(t, n, []judgeCase{
		{"unknown before only", []int64{0, 9}, 3, 1, 1},
		{"unknown before only, below 0", []int64{0, -1}, 3, 1, 1},
		{"apart before only", []int64{0, 3}, 4, 1, 1},
		{"apart at the same edge before only", []int64{0, 0}, 4, 1, 1},
		{"no before only", []int64{0, 8}, 5, 1, 1},
		{"no, where only is kept", []int64{0, 1}, 5, 1, 1},
	})
	checkJudge(t, netOf(t, 5, slices.Concat(places, []string{"only 1 1 at 2 2", "only 2 1 at 2 5", "no 3 2 at 3 3"})...), []judgeCase{
		{"two that contradict each other", []int64{0, 1}, 6, 1, 1},
		{"the other one", []int64{0, 8}, 6, 1, 1},
		{"the walk may end there", []int64{0}, 0, 1, 1},
		{"the first index decides", []int64{8, 1, 3, 0}, 5, 2, 10010},
		{"whatever comes behind it", []int64{0, 1, 3}, 6, 1, 1},
	})
	// The order of the rules plays no part.
	for _, ids := range [][]string{{"only 1 1 by 2 3", "no 2 2 at 3 2"}, {"no 1 2 at 3 2", "only 2 1 by 2 3"}} {
		checkJudge(t, netOf(t, 5, slices.Concat(places, ids)...), []judgeCase{{"no and only", []int64{0, 1, 2}, 5, 2, 11}, {"only alone", []int64{0, 1, 6}, 6, 2, 11}})
	}
}

// Edges: 0 of way 1 (1 to 1), 1 and 2 of way 2 (1 to 2 to 1).
func TestJudgeOverlaps(t *testing.T) {
	rounds := []string{"way 1 f 1 1 1", "way 2 f 1 10 2 10 1"}
	three := slices.Concat(rounds, []string{"no 1 1 by 1 1"})
	checkJudge(t, netOf(t, 2, three...), []judgeCase{
		{"two in a row", []int64{0, 0}, 0, 2, 2},
		{"three in a row", []int64{0, 0, 0}, 5, 2, 2},
		{"two and two", []int64{0, 0, 1, 2, 0, 0}, 0, 6, 24},
		{"two and three", []int64{0, 0, 1, 2, 0, 0, 0}, 5, 6, 24},
	})
	round := slices.Concat(rounds, []string{"no 1 2 by 2 2 2"})
	checkJudge(t, netOf(t, 2, round...), []judgeCase{
		{"begun in the middle of a round", []int64{2, 1, 2, 1, 2}, 0, 5, 50},
		{"two rounds", []int64{2, 1, 2, 1, 2, 1}, 5, 5, 50},
		{"a beginning within a beginning", []int64{1, 2, 1, 2, 1, 2, 1}, 5, 6, 60},
		{"broken off and begun again", []int64{2, 1, 2, 1, 2, 0, 1, 2, 1, 2, 1, 2, 1}, 5, 12, 111},
	})
	must := slices.Concat(rounds, []string{"only 1 1 by 1 2"})
	checkJudge(t, netOf(t, 2, must...), []judgeCase{
		{"kept", []int64{0, 0, 1, 2, 0, 0, 1}, 0, 7, 34},
		{"broken by going on", []int64{0, 0, 0}, 6, 2, 2},
		{"not begun", []int64{0, 1, 2, 0, 1}, 0, 5, 32},
	})
	again := slices.Concat(rounds, []string{"only 1 2 by 2 2"})
	checkJudge(t, netOf(t, 2, again...), []judgeCase{
		{"never out of the round", []int64{2, 1, 2, 1, 2, 1, 2, 0}, 6, 7, 70},
		{"out before it is begun", []int64{1, 2, 0, 1, 2}, 0, 5, 41},
	})
}

func TestJudgeLength(t *testing.T) {
	n := netOf(t, 2, "way 1 b 1 2 2", "way 2 f 2 1 2", "no 1 1 at 2 2", "turn 1 1 3", "uturn 5")
	walk := make([]int64, impl.MaxWalk+1)
	for i := range walk {
		walk[i] = int64(i % 2)
	}
	full := int64(impl.MaxWalk*2 + (impl.MaxWalk-1)*8)
	odd := slices.Clone(walk[1:])
	odd[impl.MaxWalk-1] = 2
	turned := slices.Clone(walk[:impl.MaxWalk])
	turned[impl.MaxWalk-1] = 7
	checkJudge(t, n, []judgeCase{
		{"exactly MaxWalk", walk[:impl.MaxWalk], 0, impl.MaxWalk, full},
		{"one more", walk, 2, 0, 0},
		{"one less", walk[:impl.MaxWalk-1], 0, impl.MaxWalk - 1, full - 10},
		{"the last edge is unknown", turned, 3, impl.MaxWalk - 1, full - 10},
		{"the last edge is apart", odd, 4, impl.MaxWalk - 1, full - 10},
	})
	long := make([]int64, impl.MaxWalk+1)
	long[0] = -1
	checkJudge(t, n, []judgeCase{{"the length is asked before the edges", long, 2, 0, 0}})
	heavy := netOf(t, 1, "way 1 b 1 1048576 1", "turn 1 1 1048576", "uturn 1048576")
	checkJudge(t, heavy, []judgeCase{{"the dearest walk", walk[:impl.MaxWalk], 0, impl.MaxWalk, impl.MaxNumber * (3*impl.MaxWalk - 2)}})
}

func TestJudgeOfInvalid(t *testing.T) {
	long := make([]int64, impl.MaxWalk+1)
	for _, walk := range [][]int64{nil, {0}, {-1}, long} {
		for _, c := range brokenNets() {
			if got := impl.Judge(c.net, walk); got != (impl.Verdict{Code: impl.VerdictNet}) {
				t.Errorf("%s: %+v", c.rule, got)
			}
		}
	}
	for name, pair := range limits() {
		if got := impl.Judge(pair[1], []int64{0}); got != (impl.Verdict{Code: impl.VerdictNet}) {
			t.Errorf("%s passed by one: %+v", name, got)
		}
		if got := impl.Judge(pair[0], []int64{0}); got.Code != impl.VerdictLegal || got.At != 1 {
			t.Errorf("%s exactly met: %+v", name, got)
		}
	}
}

// As many and as long rules as there can be, all alike but for their first edge, and a walk that nearly breaks each of them again and again.
func TestJudgeManyRules(t *testing.T) {
	n := tangle(1, impl.MaxSegs, false)
	n.UTurn = 0
	for id := int64(1); id <= impl.MaxRelations+2; id++ {
		w := tangle(1, 1, false).Ways[0]
		w.ID = id
		n.Ways = append(n.Ways, w)
	}
	last := int64(impl.MaxRelations + 1)
	for id := int64(1); id <= impl.MaxRelations; id++ {
		n.Relations = append(n.Relations, impl.Relation{ID: id, From: id, To: last, Ways: []int64{0, 0, 0, 0}, Only: id%2 == 0})
	}
	// Edges: 0 to 99 of way 0, then one of each way; the first rule begins with edge 100.
	to, other := impl.MaxSegs+last-1, impl.MaxSegs+last
	var walk []int64
	for len(walk)+402 <= impl.MaxWalk {
		walk = append(walk, other)
		for i := range int64(4 * impl.MaxSegs) {
			walk = append(walk, i%impl.MaxSegs)
		}
		walk = append(walk, to)
	}
	within(t, time.Minute, func() {
		if got := len(impl.Resolve(n).Rules); got != impl.MaxRelations {
			t.Fatalf("%d rules", got)
		}
		checkJudge(t, n, []judgeCase{{"none is broken", walk, 0, int64(len(walk)), int64(len(walk))}})
		start := len(walk) - 402
		walk[start] = 100
		checkJudge(t, n, []judgeCase{{"the first is broken", walk, 5, int64(len(walk) - 1), int64(len(walk) - 1)}})
		walk[start] = impl.MaxSegs + impl.MaxRelations - 1
		checkJudge(t, n, []judgeCase{{"the last is kept", walk, 0, int64(len(walk)), int64(len(walk))}})
		walk[len(walk)-1] = other
		checkJudge(t, n, []judgeCase{{"the last is broken", walk, 6, int64(len(walk) - 1), int64(len(walk) - 1)}})
	})
}

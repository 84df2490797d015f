package tests

import (
	"fmt"
	"slices"
	"testing"
	"time"

	"loop.example/s0019/impl"
)

// Edges: 0 of way 1 (1 to 2); 1 to 4 of way 2 (2-3, 3-4); 5 of way 3 (4 to 5); 6 and 7 of way 4 (5 to 6 to 4);
// 8 and 9 of way 5 (5-2); 10 of way 6 (7 to 7); 11 and 12 of way 7 (8-8); 13 and 14 of way 8 (9 to 1 to 9).
var streets = []string{
	"way 1 f 1 1 2", "way 2 b 2 1 3 1 4", "way 3 f 4 1 5", "way 4 f 5 1 6 1 4",
	"way 5 b 5 1 2", "way 6 f 7 1 7", "way 7 b 8 1 8", "way 8 f 9 1 1 1 9",
}

type resolveCase struct {
	name  string
	lines []string
	want  string
}

func checkResolve(t *testing.T, cases []resolveCase) {
	t.Helper()
	for _, c := range cases {
		n := netOf(t, 9, slices.Concat(streets, c.lines)...)
		if got := shown(impl.Resolve(n)); got != c.want {
			t.Errorf("%s: %q gives %s, want %s", c.name, c.lines, got, c.want)
		}
	}
}

func TestResolveAtNode(t *testing.T) {
	checkResolve(t, []resolveCase{
		{"no relation", nil, ""},
		{"one chain", []string{"no 1 1 at 2 2"}, "no 1 [0 1]"},
		{"one chain, only", []string{"only 1 1 at 2 2"}, "only 1 [0 1]"},
		{"into a way driven backward", []string{"no 1 1 at 2 5"}, "no 1 [0 9]"},
		{"out of a way driven backward", []string{"no 1 2 at 2 5"}, "no 1 [2 9]"},
		{"nothing of From ends there", []string{"no 1 3 at 2 2"}, "drop 1 for 1"},
		{"nothing of To begins there", []string{"no 1 2 at 2 1"}, "drop 1 for 1"},
		{"neither comes there", []string{"only 1 1 at 7 3"}, "drop 1 for 1"},
		{"a one-way way met in the middle", []string{"no 1 4 at 6 4"}, "no 1 [6 7]"},
		{"out of the last segment of a way", []string{"no 1 4 at 4 2"}, "no 1 [7 4]"},
		{"a two-way way met in the middle by itself", []string{"no 1 2 at 3 2"}, "drop 1 for 2"},
		{"turning back", []string{"no 1 2 at 4 2"}, "no 1 [3 4]"},
		{"turning back at the other end", []string{"only 1 2 at 2 2"}, "only 1 [2 1]"},
		{"a loop segment after itself", []string{"no 1 6 at 7 6"}, "no 1 [10 10]"},
		{"a two-way loop segment", []string{"no 1 7 at 8 7"}, "drop 1 for 2"},
		{"a way that ends where it begins", []string{"no 1 8 at 9 8"}, "no 1 [14 13]"},
		{"a closed way in its middle", []string{"no 1 8 at 1 1"}, "no 1 [13 0]"},
	})
	middle := []string{"way 10 f 9 1 3", "way 11 f 3 1 9", "way 12 f 3 1 9 1 3 1 9"}
	checkResolve(t, []resolveCase{
		{"a two-way From met in the middle", slices.Concat(middle, []string{"no 1 2 at 3 11"}), "drop 1 for 2"},
		{"a two-way To met in the middle", slices.Concat(middle, []string{"no 1 10 at 3 2"}), "drop 1 for 2"},
		{"a one-way From that comes twice", slices.Concat(middle, []string{"only 1 12 at 9 8"}), "drop 1 for 2"},
		{"a one-way To that leaves twice", slices.Concat(middle, []string{"only 1 10 at 3 12"}), "drop 1 for 2"},
		{"a one-way From that passes twice and comes once", slices.Concat(middle, []string{"only 1 12 at 3 11"}), "only 1 [18 16]"},
	})
}

func TestResolveByWays(t *testing.T) {
	checkResolve(t, []resolveCase{
		{"one via way, forward", []string{"no 1 1 by 2 3"}, "no 1 [0 1 3 5]"},
		{"one via way, backward", []string{"only 1 4 by 2 5"}, "only 1 [7 4 2 9]"},
		{"one via way of one segment, backward", []string{"no 1 1 by 5 4"}, "no 1 [0 9 6]"},
		{"two via ways", []string{"no 1 1 by 2 3 4"}, "no 1 [0 1 3 5 6]"},
		{"three via ways", []string{"no 1 1 by 2 3 4 3"}, "no 1 [0 1 3 5 6 7 5]"},
		{"four via ways", []string{"no 1 1 by 2 3 4 3 5"}, "no 1 [0 1 3 5 6 7 5 8]"},
		{"forth and back along one way", []string{"no 1 1 by 2 2 5"}, "no 1 [0 1 3 4 2 9]"},
		{"one way four times", []string{"only 1 1 by 2 2 2 2 5"}, "only 1 [0 1 3 4 2 1 3 4 2 9]"},
		{"out of the via way into itself", []string{"no 1 1 by 2 2"}, "no 1 [0 1 3 4]"},
		{"a one-way via way against its direction", []string{"no 1 2 by 1 8"}, "drop 1 for 1"},
		{"a via way is driven whole", []string{"no 1 3 by 4 3", "no 2 3 by 2 4"}, "no 1 [5 6 7 5], drop 2 for 1"},
		{"via ways apart", []string{"no 1 1 by 2 6 3"}, "drop 1 for 1"},
		{"From apart", []string{"no 1 6 by 2 3"}, "drop 1 for 1"},
		{"To apart", []string{"no 1 1 by 2 6"}, "drop 1 for 1"},
		{"From in the middle of its way", []string{"no 1 8 by 1 5"}, "no 1 [13 0 9]"},
		{"From, via and To the same closed way", []string{"no 1 8 by 8 8"}, "no 1 [14 13 14 13]"},
		{"and round it four times", []string{"only 1 8 by 8 8 8 8 8"}, "only 1 [14 13 14 13 14 13 14 13 14 13]"},
		{"a loop segment", []string{"no 1 6 by 6 6"}, "no 1 [10 10 10]"},
		{"a two-way loop segment by itself", []string{"no 1 7 by 7 7"}, "drop 1 for 2"},
		{"From, via and To the same two-way way", []string{"no 1 5 by 5 5"}, "drop 1 for 2"},
	})
	more := []string{"way 10 f 9 1 3", "way 11 b 3 1 9", "way 12 b 9 1 7 1 9", "way 13 f 9 1 8"}
	checkResolve(t, []resolveCase{
		{"a via way met in the middle", slices.Concat(more, []string{"no 1 10 by 2 3"}), "drop 1 for 1"},
		{"a via way left in the middle", slices.Concat(more, []string{"no 1 1 by 2 11"}), "drop 1 for 1"},
		{"a two-way From met in the middle", slices.Concat(more, []string{"no 1 2 by 11 8"}), "drop 1 for 2"},
		{"a two-way To met in the middle", slices.Concat(more, []string{"no 1 13 by 7 7", "no 2 8 by 11 2"}), "drop 1 for 2, drop 2 for 2"},
		{"a closed two-way via way", slices.Concat(more, []string{"no 1 8 by 12 13"}), "drop 1 for 2"},
		{"a closed two-way via way that leads nowhere", slices.Concat(more, []string{"no 1 8 by 12 6"}), "drop 1 for 1"},
	})
}

func TestResolveRepeats(t *testing.T) {
	checkResolve(t, []resolveCase{
		{"the same Only", []string{"no 1 1 at 2 2", "no 2 1 at 2 2"}, "no 1 [0 1], drop 2 for 3"},
		{"the other Only", []string{"only 1 1 at 2 2", "no 2 1 at 2 2"}, "only 1 [0 1], no 2 [0 1]"},
		{"by ways", []string{"only 1 1 by 2 3", "only 2 1 by 2 3", "no 3 1 by 2 3"}, "only 1 [0 1 3 5], no 3 [0 1 3 5], drop 2 for 3"},
		{"of both", []string{"no 1 1 at 2 2", "only 2 1 at 2 2", "no 3 1 at 2 2", "only 4 1 at 2 2"}, "no 1 [0 1], only 2 [0 1], drop 3 for 3, drop 4 for 3"},
		{"after a dropped repeat", []string{"no 1 1 at 2 2", "no 2 1 at 2 2", "no 3 1 at 2 2"}, "no 1 [0 1], drop 2 for 3, drop 3 for 3"},
		{"a dropped one is no rule", []string{"no 1 2 at 3 2", "no 2 2 at 3 2", "only 3 1 at 7 3", "only 4 1 at 7 3"}, "drop 1 for 2, drop 2 for 2, drop 3 for 1, drop 4 for 1"},
		{"the lower id is the rule, not the earlier line", []string{"no 9 1 at 2 2", "no 8 1 at 2 2"}, "no 8 [0 1], drop 9 for 3"},
		{"one is the beginning of the other", []string{"no 1 1 by 2 2", "no 2 1 by 2 2 5", "no 3 1 at 2 2"}, "no 1 [0 1 3 4], no 2 [0 1 3 4 2 9], no 3 [0 1]"},
		{"numbers that read alike", []string{"no 1 6 at 7 6", "no 2 8 at 1 1", "no 3 1 at 2 5"}, "no 1 [10 10], no 2 [13 0], no 3 [0 9]"},
	})
	// Edges 1, 23 and 12, 3 of single segments: the digits are the same, the lists are not.
	lines := []string{"way 1 f 1 1 2", "no 1 1 at 2 23", "no 2 12 at 2 3"}
	for id := 0; id <= 23; id++ {
		switch id {
		case 1:
		case 12:
			lines = append(lines, "way 12 f 3 1 2")
		case 3, 23:
			lines = append(lines, fmt.Sprintf("way %d f 2 1 4", id))
		default:
			lines = append(lines, fmt.Sprintf("way %d f 5 1 5", id))
		}
	}
	if got := shown(impl.Resolve(netOf(t, 5, lines...))); got != "no 1 [1 23], no 2 [12 3]" {
		t.Error(got)
	}
}

func TestResolveOrder(t *testing.T) {
	checkResolve(t, []resolveCase{{"ids", []string{
		"no 1048576 1 at 2 2", "only 7 1 by 2 3", "no 30 6 at 2 2", "no 4 2 at 3 2", "no 0 4 at 4 2", "only 100 1 at 2 2", "no 2000 4 at 4 2",
	}, "no 0 [7 4], only 7 [0 1 3 5], only 100 [0 1], no 1048576 [0 1], drop 4 for 2, drop 30 for 1, drop 2000 for 3"}})
}

func TestResolveOfInvalid(t *testing.T) {
	for _, c := range brokenNets() {
		if got := impl.Resolve(c.net); !sameResolution(got, impl.Resolution{}) {
			t.Errorf("%s: %s", c.rule, shown(got))
		}
	}
	for name, pair := range limits() {
		if got := impl.Resolve(pair[1]); !sameResolution(got, impl.Resolution{}) {
			t.Errorf("%s passed by one: %d rules, %d drops", name, len(got.Rules), len(got.Drops))
		}
	}
	if got := impl.Resolve(impl.Net{}); !sameResolution(got, impl.Resolution{}) {
		t.Error(shown(got))
	}
}

// The longest chain of all: MaxVia ways of MaxSegs segments with an edge before and after.
func TestResolveLongest(t *testing.T) {
	n := impl.Net{Nodes: []int64{1}}
	add := func(id int64, both bool, segs int) {
		w := tangle(1, segs, both).Ways[0]
		w.ID = id
		n.Ways = append(n.Ways, w)
	}
	add(1, false, 1)
	for id := range int64(impl.MaxVia) {
		add(id+2, false, impl.MaxSegs)
	}
	add(9, false, 1)
	n.Relations = []impl.Relation{{ID: 1, From: 1, To: 9, Ways: []int64{2, 3, 4, 5}}, {ID: 2, From: 1, To: 5, Ways: []int64{2, 3, 4, 5}}}
	want := make([]int64, impl.MaxVia*impl.MaxSegs+2)
	for i := range want {
		want[i] = int64(i)
	}
	got := impl.Resolve(n)
	if len(got.Rules) != 1 || !slices.Equal(got.Rules[0].Seq, want) || len(got.Drops) != 1 || got.Drops[0] != (impl.Drop{Relation: 2, Reason: 2}) {
		t.Error(shown(got))
	}
}

// Each relation by four ways has some 640,000 chains of 402 edges here, and there are a thousand relations.
func TestResolveFarTooMany(t *testing.T) {
	for _, to := range []int64{5, 6} {
		n := tangle(6, impl.MaxSegs, true)
		n.Nodes = append(n.Nodes, 2)
		n.Ways = append(n.Ways, impl.Way{ID: 6, Nodes: []int64{2, 1}, Weights: []int64{1}})
		reason := int64(impl.DropSeveral)
		if to == 6 {
			reason = impl.DropNone // nothing of way 6 begins where all the rest is
		}
		for id := range int64(impl.MaxRelations) {
			r := impl.Relation{ID: id, From: 0, To: to, Ways: []int64{1, 2, 3, 4}}
			if id%10 == 0 {
				r = impl.Relation{ID: id, From: 0, To: to, ViaNode: true, Node: 1}
			}
			n.Relations = append(n.Relations, r)
		}
		within(t, time.Minute, func() {
			got := impl.Resolve(n)
			if len(got.Rules) != 0 || len(got.Drops) != impl.MaxRelations {
				t.Errorf("%d rules, %d drops", len(got.Rules), len(got.Drops))
			}
			for i, drop := range got.Drops {
				if drop != (impl.Drop{Relation: int64(i), Reason: reason}) {
					t.Fatalf("%+v", drop)
				}
			}
		})
	}
}

package tests

import (
	"math"
	"slices"
	"testing"

	"loop.example/s0019/impl"
)

type brokenNet struct {
	rule string
	net  impl.Net
}

// brokenNets are the sample with one rule of section 1.3 broken alone.
func brokenNets() []brokenNet {
	var out []brokenNet
	add := func(rule string, change func(n *impl.Net)) {
		n := sampleNet()
		change(&n)
		out = append(out, brokenNet{rule, n})
	}
	add("nodes descend", func(n *impl.Net) { n.Nodes[1], n.Nodes[2] = n.Nodes[2], n.Nodes[1] })
	add("a node repeats", func(n *impl.Net) { n.Nodes = slices.Insert(n.Nodes, 2, n.Nodes[2]) })
	add("the last node repeats", func(n *impl.Net) { n.Nodes = append(n.Nodes, impl.MaxNumber) })
	add("no nodes", func(n *impl.Net) { n.Nodes = nil })

	add("ways descend", func(n *impl.Net) { n.Ways[1], n.Ways[2] = n.Ways[2], n.Ways[1] })
	add("a way repeats", func(n *impl.Net) { n.Ways = slices.Insert(n.Ways, 1, n.Ways[1]) })
	add("no ways", func(n *impl.Net) { n.Ways = nil })
	add("a way without segments", func(n *impl.Net) { n.Ways[0].Nodes, n.Ways[0].Weights = []int64{0}, nil })
	add("a way of nothing", func(n *impl.Net) { n.Ways[0].Nodes, n.Ways[0].Weights = nil, nil })
	add("a way without nodes", func(n *impl.Net) { n.Ways[0].Nodes = nil })
	add("as many nodes as weights", func(n *impl.Net) { n.Ways[0].Nodes = []int64{0} })
	add("two nodes more than weights", func(n *impl.Net) { n.Ways[0].Nodes = []int64{0, 5, 0} })
	add("the first node of a way is not there", func(n *impl.Net) { n.Ways[0].Nodes[0] = 7 })
	add("the last node of a way is not there", func(n *impl.Net) { n.Ways[1].Nodes[3] = 7 })

	add("relations descend", func(n *impl.Net) { n.Relations[1], n.Relations[2] = n.Relations[2], n.Relations[1] })
	add("a relation repeats", func(n *impl.Net) { n.Relations = slices.Insert(n.Relations, 1, n.Relations[1]) })
	add("from is no way", func(n *impl.Net) { n.Relations[0].From = 6 })
	add("to is no way", func(n *impl.Net) { n.Relations[0].To = 6 })
	add("from is no way, by ways", func(n *impl.Net) { n.Relations[2].From = 6 })
	add("to is no way, by ways", func(n *impl.Net) { n.Relations[2].To = 6 })
	add("from is -1", func(n *impl.Net) { n.Relations[0].From = -1 })
	add("the via node is not there", func(n *impl.Net) { n.Relations[0].Node = 7 })
	add("the via node is -1", func(n *impl.Net) { n.Relations[0].Node = -1 })
	add("a via node and a via way", func(n *impl.Net) { n.Relations[0].Ways = []int64{0} })
	add("a node beside via ways", func(n *impl.Net) { n.Relations[2].Node = 5 })
	add("a node of -1 beside via ways", func(n *impl.Net) { n.Relations[2].Node = -1 })
	add("neither a node nor ways", func(n *impl.Net) { n.Relations[2].Ways = nil })
	add("an empty list of via ways", func(n *impl.Net) { n.Relations[2].Ways = []int64{} })
	add("a node without its flag", func(n *impl.Net) { n.Relations[0].ViaNode = false })
	add("too many via ways", func(n *impl.Net) { n.Relations[3].Ways = []int64{5, 5, 5, 5, 5} })
	add("the first via way is not there", func(n *impl.Net) { n.Relations[3].Ways[0] = 6 })
	add("the last via way is not there", func(n *impl.Net) { n.Relations[3].Ways[3] = 6 })

	add("turns descend by from", func(n *impl.Net) { n.Turns[1], n.Turns[2] = n.Turns[2], n.Turns[1] })
	add("turns descend by to", func(n *impl.Net) { n.Turns[0], n.Turns[1] = n.Turns[1], n.Turns[0] })
	add("a turn repeats", func(n *impl.Net) {
		n.Turns = slices.Insert(n.Turns, 1, n.Turns[1])
		n.Turns[1].Cost++
	})
	add("a turn from no way", func(n *impl.Net) { n.Turns[2].From = 6 })
	add("a turn to no way", func(n *impl.Net) { n.Turns[3].To = 6 })
	addNumbers(add)
	return out
}

// addNumbers puts numbers out of range in each place that holds one.
func addNumbers(add func(string, func(n *impl.Net))) {
	for _, v := range []int64{-1, math.MinInt64} {
		add("a node below 0", func(n *impl.Net) { n.Nodes = slices.Insert(n.Nodes, 0, v) })
		add("a way id below 0", func(n *impl.Net) {
			n.Ways = slices.Insert(n.Ways, 0, impl.Way{ID: v, Nodes: []int64{9, 9}, Weights: []int64{1}})
		})
		add("a relation id below 0", func(n *impl.Net) { n.Relations[0].ID = v })
	}
	for _, v := range []int64{impl.MaxNumber + 1, math.MaxInt64} {
		add("a node too large", func(n *impl.Net) { n.Nodes = append(n.Nodes, v) })
		add("a way id too large", func(n *impl.Net) {
			n.Ways = append(n.Ways, impl.Way{ID: v, Nodes: []int64{9, 9}, Weights: []int64{1}})
		})
		add("a relation id too large", func(n *impl.Net) { n.Relations[3].ID = v })
	}
	for _, v := range []int64{-1, math.MinInt64, impl.MaxNumber + 1, math.MaxInt64} {
		add("a weight out of range", func(n *impl.Net) { n.Ways[0].Weights[0] = v })
		add("a last weight out of range", func(n *impl.Net) { n.Ways[1].Weights[2] = v })
		add("a cost out of range", func(n *impl.Net) { n.Turns[1].Cost = v })
		add("a penalty out of range", func(n *impl.Net) { n.UTurn = v })
		add("a way through a node out of range", func(n *impl.Net) { n.Ways[0].Nodes[1] = v })
	}
}

func TestValidNetRules(t *testing.T) {
	if !impl.ValidNet(sampleNet()) {
		t.Fatal("the sample is valid")
	}
	for _, c := range brokenNets() {
		if impl.ValidNet(c.net) {
			t.Errorf("%s: valid", c.rule)
		}
	}
}

func TestValidNetAccepts(t *testing.T) {
	accepts := map[string]func(n *impl.Net){
		"numbers of 0": func(n *impl.Net) { n.Ways[0].Weights[0], n.Turns[0].Cost, n.UTurn = 0, 0, 0 },
		"numbers of MaxNumber": func(n *impl.Net) {
			n.Ways[0].Weights[0], n.Turns[0].Cost, n.UTurn = impl.MaxNumber, impl.MaxNumber, impl.MaxNumber
		},
		"no relations":                 func(n *impl.Net) { n.Relations = nil },
		"no turns":                     func(n *impl.Net) { n.Turns = []impl.TurnCost{} },
		"an empty list beside a node":  func(n *impl.Net) { n.Relations[0].Ways = []int64{} },
		"the same way from, by and to": func(n *impl.Net) { n.Relations[2] = impl.Relation{ID: 6, From: 5, To: 5, Ways: []int64{5, 5, 5, 5}} },
		"a node that no way goes to":   func(n *impl.Net) { n.Nodes = slices.Insert(n.Nodes, 1, 3) },
		"a via node 0":                 func(n *impl.Net) { n.Relations[0].Node = 0 },
		"two relations that say the same": func(n *impl.Net) {
			n.Relations[1] = n.Relations[0]
			n.Relations[1].ID = 1
		},
	}
	for name, change := range accepts {
		n := sampleNet()
		change(&n)
		if !impl.ValidNet(n) {
			t.Errorf("%s: not valid", name)
		}
		wantRoundTrip(t, name, n)
	}
	for _, penalty := range []int64{0, 1, impl.MaxNumber} {
		if !impl.ValidNet(impl.Net{UTurn: penalty}) {
			t.Errorf("the empty network with penalty %d", penalty)
		}
	}
	for _, penalty := range []int64{-1, impl.MaxNumber + 1} {
		if impl.ValidNet(impl.Net{UTurn: penalty}) {
			t.Errorf("the empty network with penalty %d", penalty)
		}
	}
}

func TestValidNetCounts(t *testing.T) {
	for name, pair := range limits() {
		if !impl.ValidNet(pair[0]) {
			t.Errorf("%s exactly met: not valid", name)
		}
		if impl.ValidNet(pair[1]) {
			t.Errorf("%s passed by one: valid", name)
		}
	}
	for _, both := range []bool{false, true} {
		for segs, want := range map[int]bool{0: false, 1: true, impl.MaxSegs: true, impl.MaxSegs + 1: false} {
			if impl.ValidNet(grownNet(size{nodes: 3, ways: 2, segs: segs, both: both})) != want {
				t.Errorf("%d segments, both %v: want %v", segs, both, want)
			}
		}
	}
	for via, want := range map[int]bool{1: true, impl.MaxVia: true, impl.MaxVia + 1: false} {
		if impl.ValidNet(grownNet(size{nodes: 3, ways: 2, segs: 1, relations: 1, via: via})) != want {
			t.Errorf("%d via ways: want %v", via, want)
		}
	}
}

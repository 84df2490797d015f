package tests

import (
	"math/rand"
	"slices"
	"testing"

	"loop.example/s0019/impl"
)

// A second reading of chapter 2, by the letter and without care for time. Random networks and walks hold the program against it.

func refRoad(n impl.Net) impl.Road {
	r := impl.Road{Nodes: n.Nodes}
	for i, w := range n.Ways {
		for seg := range w.Weights {
			a := int64(slices.Index(n.Nodes, w.Nodes[seg]))
			b := int64(slices.Index(n.Nodes, w.Nodes[seg+1]))
			e := impl.Edge{Tail: a, Head: b, Weight: w.Weights[seg], Way: int64(i), Seg: int64(seg), Twin: -1}
			if w.Both {
				e.Twin = int64(len(r.Edges) + 1)
			}
			r.Edges = append(r.Edges, e)
			if w.Both {
				r.Edges = append(r.Edges, impl.Edge{Tail: b, Head: a, Weight: e.Weight, Way: e.Way, Seg: e.Seg, Back: true, Twin: e.Twin - 1})
			}
		}
	}
	for p := range n.Nodes {
		r.First = append(r.First, int64(len(r.Out)))
		for number, e := range r.Edges {
			if e.Tail == int64(p) {
				r.Out = append(r.Out, int64(number))
			}
		}
	}
	r.First = append(r.First, int64(len(r.Out)))
	return r
}

// refParts answers the single edges of a way, and its traversals.
func refParts(n impl.Net, id int64) (edges, traversals [][]int64) {
	var forward, backward []int64
	for number, e := range refRoad(n).Edges {
		if n.Ways[e.Way].ID != id {
			continue
		}
		edges = append(edges, []int64{int64(number)})
		if e.Back {
			backward = append([]int64{int64(number)}, backward...)
		} else {
			forward = append(forward, int64(number))
		}
	}
	traversals = [][]int64{forward}
	if backward != nil {
		traversals = append(traversals, backward)
	}
	return edges, traversals
}

func refJoined(edges []impl.Edge, list []int64) bool {
	for i := 1; i < len(list); i++ {
		if edges[list[i-1]].Head != edges[list[i]].Tail {
			return false
		}
	}
	return true
}

// refChains lists every choice of parts and keeps those that are joined.
func refChains(n impl.Net, rel impl.Relation) [][]int64 {
	from, _ := refParts(n, rel.From)
	to, _ := refParts(n, rel.To)
	parts := [][][]int64{from}
	for _, id := range rel.Ways {
		_, traversals := refParts(n, id)
		parts = append(parts, traversals)
	}
	parts = append(parts, to)
	lists := [][]int64{nil}
	for _, choice := range parts {
		var longer [][]int64
		for _, list := range lists {
			for _, part := range choice {
				longer = append(longer, slices.Concat(list, part))
			}
		}
		lists = longer
	}
	edges := refRoad(n).Edges
	return slices.DeleteFunc(lists, func(list []int64) bool {
		return !refJoined(edges, list) || rel.ViaNode && n.Nodes[edges[list[0]].Head] != rel.Node
	})
}

func refResolve(n impl.Net) impl.Resolution {
	var out impl.Resolution
	for _, rel := range n.Relations {
		chains := refChains(n, rel)
		reason := int64(0)
		switch {
		case len(chains) == 0:
			reason = 1
		case len(chains) > 1:
			reason = 2
		case slices.ContainsFunc(out.Rules, func(r impl.Rule) bool { return r.Only == rel.Only && slices.Equal(r.Seq, chains[0]) }):
			reason = 3
		}
		if reason != 0 {
			out.Drops = append(out.Drops, impl.Drop{Relation: rel.ID, Reason: reason})
		} else {
			out.Rules = append(out.Rules, impl.Rule{Relation: rel.ID, Only: rel.Only, Seq: chains[0]})
		}
	}
	return out
}

func refKeeps(rule impl.Rule, walk []int64) bool {
	last := len(rule.Seq) - 1
	for i := range walk {
		tail := walk[i:]
		if len(tail) <= last || !slices.Equal(tail[:last], rule.Seq[:last]) {
			continue
		}
		if (tail[last] == rule.Seq[last]) != rule.Only {
			return false
		}
	}
	return true
}

// refLegal is section 2.3.
func refLegal(road impl.Road, rules []impl.Rule, walk []int64) bool {
	for _, e := range walk {
		if e < 0 || e >= int64(len(road.Edges)) {
			return false
		}
	}
	return len(walk) > 0 && refJoined(road.Edges, walk) && !slices.ContainsFunc(rules, func(r impl.Rule) bool { return !refKeeps(r, walk) })
}

func refCost(n impl.Net, road impl.Road, walk []int64) int64 {
	sum := int64(0)
	for i, e := range walk {
		edge := road.Edges[e]
		sum += edge.Weight
		if i == 0 {
			continue
		}
		before := road.Edges[walk[i-1]]
		for _, turn := range n.Turns {
			if turn.From == n.Ways[before.Way].ID && turn.To == n.Ways[edge.Way].ID {
				sum += turn.Cost
			}
		}
		if before.Twin == e {
			sum += n.UTurn
		}
	}
	return sum
}

// refJudge finds the longest legal beginning, and then asks why it goes no further.
func refJudge(n impl.Net, road impl.Road, rules []impl.Rule, walk []int64) impl.Verdict {
	at := 0
	for at < len(walk) && refLegal(road, rules, walk[:at+1]) {
		at++
	}
	v := impl.Verdict{At: int64(at), Cost: refCost(n, road, walk[:at])}
	if at == len(walk) {
		return v
	}
	broken := func(only bool) bool {
		return slices.ContainsFunc(rules, func(r impl.Rule) bool { return r.Only == only && !refKeeps(r, walk[:at+1]) })
	}
	switch {
	case walk[at] < 0 || walk[at] >= int64(len(road.Edges)):
		v.Code = 3
	case !refJoined(road.Edges, walk[:at+1]):
		v.Code = 4
	case broken(false):
		v.Code = 5
	case broken(true):
		v.Code = 6
	}
	return v
}

// crowdedNet is small, with few nodes and many relations, so that chains and repeats come up often.
func crowdedNet(r *rand.Rand) impl.Net {
	n := impl.Net{UTurn: int64(r.Intn(3) * 1000)}
	for id := range int64(2 + r.Intn(5)) {
		n.Nodes = append(n.Nodes, id*3)
	}
	node := func() int64 { return n.Nodes[r.Intn(len(n.Nodes))] }
	for id := range int64(2 + r.Intn(5)) {
		w := impl.Way{ID: id * 2, Both: r.Intn(3) == 0, Nodes: []int64{node()}}
		for range 1 + r.Intn(3) {
			w.Nodes = append(w.Nodes, node())
			w.Weights = append(w.Weights, int64(r.Intn(20)))
		}
		n.Ways = append(n.Ways, w)
	}
	way := func() int64 { return n.Ways[r.Intn(len(n.Ways))].ID }
	for id := range int64(r.Intn(14)) {
		rel := impl.Relation{ID: id * 5, Only: r.Intn(3) == 0, From: way(), To: way(), ViaNode: r.Intn(2) == 0}
		if rel.ViaNode {
			rel.Node = node()
		}
		for !rel.ViaNode && (len(rel.Ways) == 0 || len(rel.Ways) < impl.MaxVia && r.Intn(2) == 0) {
			rel.Ways = append(rel.Ways, way())
		}
		if id > 0 && r.Intn(5) == 0 {
			rel = n.Relations[r.Intn(int(id))]
			rel.ID, rel.Ways, rel.Only = id*5, slices.Clone(rel.Ways), rel.Only != (r.Intn(4) == 0)
		}
		n.Relations = append(n.Relations, rel)
	}
	for _, from := range n.Ways {
		for _, to := range n.Ways {
			if r.Intn(3) == 0 {
				n.Turns = append(n.Turns, impl.TurnCost{From: from.ID, To: to.ID, Cost: int64(r.Intn(5) * 100)})
			}
		}
	}
	return n
}

// randomWalk mostly goes on along joined edges and likes to follow rules to their end.
func randomWalk(r *rand.Rand, road impl.Road, rules []impl.Rule) []int64 {
	if len(road.Edges) == 0 {
		return []int64{int64(r.Intn(3)) - 1}
	}
	walk := []int64{int64(r.Intn(len(road.Edges)))}
	for range r.Intn(14) {
		if r.Intn(60) == 0 {
			walk = append(walk, int64(r.Intn(len(road.Edges)+2))-1)
			continue
		}
		last := walk[len(walk)-1]
		if last < 0 || last >= int64(len(road.Edges)) {
			break
		}
		if len(rules) > 0 && r.Intn(3) == 0 {
			seq := rules[r.Intn(len(rules))].Seq
			if at := slices.Index(seq, last); at >= 0 {
				walk = append(walk, seq[at+1:max(at+1, len(seq)-r.Intn(2))]...)
				continue
			}
		}
		p := road.Edges[last].Head
		if next := road.Out[road.First[p]:road.First[p+1]]; len(next) > 0 {
			walk = append(walk, next[r.Intn(len(next))])
		}
	}
	return walk
}

func TestRulesAgainstReference(t *testing.T) {
	r := rand.New(rand.NewSource(5))
	reasons, codes := map[int64]int{}, map[int64]int{}
	for range 6000 {
		n := crowdedNet(r)
		before := copyNet(n)
		road, res := refRoad(n), refResolve(n)
		wantRoad(t, "random", n, road)
		if got := impl.Resolve(n); !sameResolution(got, res) {
			t.Fatalf("%s\n%s, want\n%s", textOf(n), shown(got), shown(res))
		}
		reasons[0] += len(res.Rules)
		for _, d := range res.Drops {
			reasons[d.Reason]++
		}
		for range 12 {
			walk := randomWalk(r, road, res.Rules)
			want := refJudge(n, road, res.Rules, walk)
			if got := impl.Judge(n, walk); got != want {
				t.Fatalf("%s%s\n%v: %+v, want %+v", textOf(n), shown(res), walk, got, want)
			}
			codes[want.Code]++
		}
		if !sameNet(n, before) {
			t.Fatal("the network was changed")
		}
	}
	for reason := range int64(4) {
		if reasons[reason] < 300 {
			t.Errorf("reason %d was met only %d times", reason, reasons[reason])
		}
	}
	for _, code := range []int64{0, 3, 4, 5, 6} {
		if codes[code] < 300 {
			t.Errorf("code %d was met only %d times", code, codes[code])
		}
	}
}

// The promise itself, asked without the second reading: each relation is told once, and each rule goes joined from way From to way To.
func TestResolvePromise(t *testing.T) {
	r := rand.New(rand.NewSource(6))
	for range 3000 {
		n := crowdedNet(r)
		road, res := impl.BuildRoad(n), impl.Resolve(n)
		told := map[int64]int{}
		for _, rule := range res.Rules {
			told[rule.Relation]++
			at := slices.IndexFunc(n.Relations, func(rel impl.Relation) bool { return rel.ID == rule.Relation })
			first, last := road.Edges[rule.Seq[0]], road.Edges[rule.Seq[len(rule.Seq)-1]]
			rel := n.Relations[at]
			if rule.Only != rel.Only || n.Ways[first.Way].ID != rel.From || n.Ways[last.Way].ID != rel.To || !refJoined(road.Edges, rule.Seq) {
				t.Fatalf("%s%+v", textOf(n), rule)
			}
		}
		for _, drop := range res.Drops {
			told[drop.Relation]++
		}
		for _, rel := range n.Relations {
			if told[rel.ID] != 1 {
				t.Fatalf("%srelation %d is told %d times", textOf(n), rel.ID, told[rel.ID])
			}
		}
		if len(told) != len(n.Relations) {
			t.Fatalf("%d relations told of %d", len(told), len(n.Relations))
		}
		if !slices.IsSortedFunc(res.Rules, func(a, b impl.Rule) int { return int(a.Relation - b.Relation) }) ||
			!slices.IsSortedFunc(res.Drops, func(a, b impl.Drop) int { return int(a.Relation - b.Relation) }) {
			t.Fatalf("%s: not in order", shown(res))
		}
	}
}

package tests

import (
	"fmt"
	"slices"
	"strings"
	"testing"

	"loop.example/s0019/impl"
)

// The signatures are fixed: the project does not build if one of them changes.
var (
	_ func([]byte) impl.Parsed = impl.ParseNet
	_ func(impl.Net) bool      = impl.ValidNet
	_ func(impl.Net) []byte    = impl.EncodeNet
)

// text joins lines below the header, each with its end.
func text(lines ...string) string {
	return "roadnet 1\n" + strings.Join(lines, "\n") + "\n"
}

// sameNet holds an empty list and nil for the same value.
func sameNet(a, b impl.Net) bool {
	return slices.Equal(a.Nodes, b.Nodes) && a.UTurn == b.UTurn && slices.Equal(a.Turns, b.Turns) &&
		slices.EqualFunc(a.Ways, b.Ways, sameWay) && slices.EqualFunc(a.Relations, b.Relations, sameRelation)
}

func sameWay(a, b impl.Way) bool {
	return a.ID == b.ID && a.Both == b.Both && slices.Equal(a.Nodes, b.Nodes) && slices.Equal(a.Weights, b.Weights)
}

func sameRelation(a, b impl.Relation) bool {
	return a.ID == b.ID && a.Only == b.Only && a.From == b.From && a.To == b.To && a.ViaNode == b.ViaNode &&
		a.Node == b.Node && slices.Equal(a.Ways, b.Ways)
}

func copyNet(n impl.Net) impl.Net {
	n.Nodes = slices.Clone(n.Nodes)
	n.Ways = slices.Clone(n.Ways)
	for i := range n.Ways {
		n.Ways[i].Nodes = slices.Clone(n.Ways[i].Nodes)
		n.Ways[i].Weights = slices.Clone(n.Ways[i].Weights)
	}
	n.Relations = slices.Clone(n.Relations)
	for i := range n.Relations {
		n.Relations[i].Ways = slices.Clone(n.Relations[i].Ways)
	}
	n.Turns = slices.Clone(n.Turns)
	return n
}

// sampleNet has every kind of line, and the same ids in the three worlds.
func sampleNet() impl.Net {
	return impl.Net{
		Nodes: []int64{0, 5, 6, 9, impl.MaxNumber},
		Ways: []impl.Way{
			{ID: 0, Nodes: []int64{0, 5}, Weights: []int64{0}},
			{ID: 5, Both: true, Nodes: []int64{5, 6, 5, 5}, Weights: []int64{1, impl.MaxNumber, 3}},
			{ID: 7, Nodes: []int64{9, 9}, Weights: []int64{4}},
			{ID: impl.MaxNumber, Both: true, Nodes: []int64{impl.MaxNumber, 0}, Weights: []int64{2}},
		},
		Relations: []impl.Relation{
			{ID: 0, From: 0, To: 5, ViaNode: true, Node: 5},
			{ID: 5, Only: true, From: 5, To: 5, ViaNode: true, Node: 0},
			{ID: 6, From: 7, To: 0, Ways: []int64{7}},
			{ID: impl.MaxNumber, Only: true, From: 7, To: 5, Ways: []int64{5, 0, 5, 7}},
		},
		Turns: []impl.TurnCost{
			{From: 0, To: 0, Cost: 0},
			{From: 0, To: 5, Cost: impl.MaxNumber},
			{From: 5, To: 0, Cost: 1},
			{From: impl.MaxNumber, To: 7, Cost: 2},
		},
		UTurn: 11,
	}
}

const sampleText = "roadnet 1\nuturn 11\nnode 0\nnode 5\nnode 6\nnode 9\nnode 1048576\n" +
	"way 0 f 0 0 5\nway 5 b 5 1 6 1048576 5 3 5\nway 7 f 9 4 9\nway 1048576 b 1048576 2 0\n" +
	"no 0 0 at 5 5\nonly 5 5 at 0 5\nno 6 7 by 7 0\nonly 1048576 7 by 5 0 5 7 5\n" +
	"turn 0 0 0\nturn 0 5 1048576\nturn 5 0 1\nturn 1048576 7 2\n"

// textOf writes any network, also one that EncodeNet refuses.
func textOf(n impl.Net) string {
	var b strings.Builder
	fmt.Fprintf(&b, "roadnet 1\nuturn %d\n", n.UTurn)
	for _, id := range n.Nodes {
		fmt.Fprintf(&b, "node %d\n", id)
	}
	for _, w := range n.Ways {
		fmt.Fprintf(&b, "way %d %s %d", w.ID, map[bool]string{true: "b", false: "f"}[w.Both], w.Nodes[0])
		for i, weight := range w.Weights {
			fmt.Fprintf(&b, " %d %d", weight, w.Nodes[i+1])
		}
		b.WriteByte('\n')
	}
	for _, r := range n.Relations {
		fmt.Fprintf(&b, "%s %d %d", map[bool]string{true: "only", false: "no"}[r.Only], r.ID, r.From)
		if r.ViaNode {
			fmt.Fprintf(&b, " at %d", r.Node)
		} else {
			fmt.Fprintf(&b, " by %s", strings.Trim(fmt.Sprint(r.Ways), "[]"))
		}
		fmt.Fprintf(&b, " %d\n", r.To)
	}
	for _, t := range n.Turns {
		fmt.Fprintf(&b, "turn %d %d %d\n", t.From, t.To, t.Cost)
	}
	return b.String()
}

// A size says how many entries a network of grownNet has.
type size struct {
	nodes, ways, segs, relations, via, turns int
	both                                     bool
	base                                     int64 // the lowest id; also every weight and cost
}

func grownNet(s size) impl.Net {
	n := impl.Net{UTurn: s.base}
	for i := range s.nodes {
		n.Nodes = append(n.Nodes, s.base+int64(i))
	}
	for i := range s.ways {
		n.Ways = append(n.Ways, grownWay(s, s.base+int64(i)))
	}
	for i := range s.relations {
		r := impl.Relation{ID: s.base + int64(i), Only: true, From: s.base, To: s.base + int64(i%s.ways), ViaNode: s.via == 0}
		if r.ViaNode {
			r.Node = s.base
		}
		for j := range s.via {
			r.Ways = append(r.Ways, s.base+int64((i+j)%s.ways))
		}
		n.Relations = append(n.Relations, r)
	}
	for i := range s.turns {
		n.Turns = append(n.Turns, impl.TurnCost{From: s.base + int64(i/s.ways), To: s.base + int64(i%s.ways), Cost: s.base})
	}
	return n
}

func grownWay(s size, id int64) impl.Way {
	w := impl.Way{ID: id, Both: s.both, Nodes: []int64{s.base}}
	for j := range s.segs {
		w.Nodes = append(w.Nodes, s.base+int64(j%s.nodes))
		w.Weights = append(w.Weights, s.base)
	}
	return w
}

// limits lists each count of section 1.5 exactly met, and passed by one.
func limits() map[string][2]impl.Net {
	pair := func(at, past size) [2]impl.Net {
		return [2]impl.Net{grownNet(at), grownNet(past)}
	}
	small := size{nodes: 2, ways: 45, segs: 1}
	with := func(change func(*size)) size {
		s := small
		change(&s)
		return s
	}
	edges := func(full size, more impl.Way) [2]impl.Net {
		at, past := grownNet(full), grownNet(full)
		past.Ways = append(past.Ways, more)
		return [2]impl.Net{at, past}
	}
	last := impl.Way{ID: 5000, Nodes: []int64{0, 1}, Weights: []int64{1}}
	lastBoth := last
	lastBoth.Both = true
	return map[string][2]impl.Net{
		"nodes":         pair(with(func(s *size) { s.nodes = impl.MaxNodes }), with(func(s *size) { s.nodes = impl.MaxNodes + 1 })),
		"ways":          pair(with(func(s *size) { s.ways = impl.MaxWays }), with(func(s *size) { s.ways = impl.MaxWays + 1 })),
		"edges":         edges(size{nodes: 2, ways: 40, segs: 100}, last),
		"edges both":    edges(size{nodes: 2, ways: 1000, segs: 2, both: true}, last),
		"edges by both": edges(size{nodes: 2, ways: 40, segs: 50, both: true}, lastBoth),
		"relations":     pair(with(func(s *size) { s.relations = impl.MaxRelations }), with(func(s *size) { s.relations = impl.MaxRelations + 1 })),
		"turns":         pair(with(func(s *size) { s.turns = impl.MaxTurns }), with(func(s *size) { s.turns = impl.MaxTurns + 1 })),
	}
}

func wantRefused(t *testing.T, text string, code, line int64) {
	t.Helper()
	p := impl.ParseNet([]byte(text))
	if p.Code != code || p.Line != line || !sameNet(p.Net, impl.Net{}) {
		shown := text[:min(len(text), 120)]
		t.Errorf("%q: code %d line %d (net empty: %v), want %d %d", shown, p.Code, p.Line, sameNet(p.Net, impl.Net{}), code, line)
	}
}

func wantRead(t *testing.T, text string, want impl.Net) {
	t.Helper()
	p := impl.ParseNet([]byte(text))
	if p.Code != 0 || p.Line != 0 || !sameNet(p.Net, want) {
		shown := text[:min(len(text), 120)]
		t.Errorf("%q: code %d line %d, the network as wanted: %v", shown, p.Code, p.Line, sameNet(p.Net, want))
	}
}

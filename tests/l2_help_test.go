package tests

import (
	"fmt"
	"slices"
	"strings"
	"testing"
	"time"

	"loop.example/s0019/impl"
)

var (
	_ func(impl.Net) impl.Road             = impl.BuildRoad
	_ func(impl.Net) impl.Resolution       = impl.Resolve
	_ func(impl.Net, []int64) impl.Verdict = impl.Judge
)

// netOf reads a network with the nodes 1 to count beside what the lines say.
func netOf(t *testing.T, count int, lines ...string) impl.Net {
	t.Helper()
	for id := range count {
		lines = append(lines, fmt.Sprint("node ", id+1))
	}
	p := impl.ParseNet([]byte(text(lines...)))
	if p.Code != 0 {
		t.Fatalf("%q: code %d line %d", lines, p.Code, p.Line)
	}
	return p.Net
}

// within fails the test if what it does takes longer than anyone would wait.
func within(t *testing.T, limit time.Duration, do func()) {
	t.Helper()
	done := make(chan int, 1)
	go func() {
		do()
		done <- 1
	}()
	select {
	case <-done:
	case <-time.After(limit):
		t.Fatalf("not done after %v", limit)
	}
}

func sameRoad(a, b impl.Road) bool {
	return slices.Equal(a.Nodes, b.Nodes) && slices.Equal(a.Edges, b.Edges) && slices.Equal(a.First, b.First) && slices.Equal(a.Out, b.Out)
}

func sameRule(a, b impl.Rule) bool {
	return a.Relation == b.Relation && a.Only == b.Only && slices.Equal(a.Seq, b.Seq)
}

func sameResolution(a, b impl.Resolution) bool {
	return slices.EqualFunc(a.Rules, b.Rules, sameRule) && slices.Equal(a.Drops, b.Drops)
}

// shown writes a resolution in short: "no 1 [0 2]" is a rule, "drop 3 for 2" a drop.
func shown(r impl.Resolution) string {
	var parts []string
	for _, rule := range r.Rules {
		word := "no"
		if rule.Only {
			word = "only"
		}
		parts = append(parts, fmt.Sprint(word, " ", rule.Relation, " ", rule.Seq))
	}
	for _, drop := range r.Drops {
		parts = append(parts, fmt.Sprint("drop ", drop.Relation, " for ", drop.Reason))
	}
	return strings.Join(parts, ", ")
}

// tangle is a network in which a drive can go round and round: one node, and loop segments at it on every way.
func tangle(ways, segs int, both bool) impl.Net {
	n := impl.Net{Nodes: []int64{1}, UTurn: 1}
	for id := range int64(ways) {
		w := impl.Way{ID: id, Both: both, Nodes: []int64{1}}
		for range segs {
			w.Nodes = append(w.Nodes, 1)
			w.Weights = append(w.Weights, 1)
		}
		n.Ways = append(n.Ways, w)
	}
	return n
}

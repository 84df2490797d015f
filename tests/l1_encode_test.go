package tests

import (
	"testing"

	"loop.example/s0019/impl"
)

func wantRoundTrip(t *testing.T, what string, n impl.Net) {
	t.Helper()
	out := impl.EncodeNet(n)
	if string(out) != textOf(n) {
		t.Errorf("%s: not the canonical text", what)
	}
	if len(out) >= impl.MaxText {
		t.Errorf("%s: the text has %d bytes", what, len(out))
	}
	p := impl.ParseNet(out)
	if p.Code != 0 || p.Line != 0 || !sameNet(p.Net, n) {
		t.Errorf("%s: read back with code %d line %d, the same: %v", what, p.Code, p.Line, sameNet(p.Net, n))
	}
	if !impl.ValidNet(p.Net) {
		t.Errorf("%s: what was read is not valid", what)
	}
}

func TestEncodeExample(t *testing.T) {
	n := impl.Net{
		Nodes:     []int64{1, 2, 3},
		Ways:      []impl.Way{{ID: 10, Both: true, Nodes: []int64{1, 2}, Weights: []int64{5}}, {ID: 11, Nodes: []int64{2, 3}, Weights: []int64{7}}},
		Relations: []impl.Relation{{ID: 4, From: 10, To: 11, ViaNode: true, Node: 2}},
		Turns:     []impl.TurnCost{{From: 10, To: 11, Cost: 3}},
		UTurn:     9,
	}
	want := "roadnet 1\nuturn 9\nnode 1\nnode 2\nnode 3\nway 10 b 1 5 2\nway 11 f 2 7 3\nno 4 10 at 2 11\nturn 10 11 3\n"
	if got := string(impl.EncodeNet(n)); got != want {
		t.Errorf("%q", got)
	}
	wantRoundTrip(t, "example", n)
}

func TestEncodeEveryKindOfLine(t *testing.T) {
	if got := string(impl.EncodeNet(sampleNet())); got != sampleText {
		t.Errorf("%q", got)
	}
	wantRoundTrip(t, "sample", sampleNet())
}

func TestEncodeEmptyNetwork(t *testing.T) {
	empty := impl.Net{Nodes: []int64{}, Ways: []impl.Way{}, Relations: []impl.Relation{}, Turns: []impl.TurnCost{}}
	for _, n := range []impl.Net{{}, empty} {
		if got := string(impl.EncodeNet(n)); got != "roadnet 1\nuturn 0\n" {
			t.Errorf("%q", got)
		}
		wantRoundTrip(t, "empty", n)
	}
	wantRoundTrip(t, "empty with a penalty", impl.Net{UTurn: impl.MaxNumber})
}

func TestEncodeLargest(t *testing.T) {
	longest := size{nodes: impl.MaxNodes, ways: impl.MaxWays, segs: 2, relations: impl.MaxRelations, via: impl.MaxVia, turns: impl.MaxTurns, base: 1040000}
	wantRoundTrip(t, "the largest", grownNet(longest))
	longest.via = 0
	wantRoundTrip(t, "the largest by nodes", grownNet(longest))
	wantRoundTrip(t, "long ways", grownNet(size{nodes: impl.MaxNodes, ways: 40, segs: impl.MaxSegs, relations: impl.MaxRelations, via: 1, turns: 1600, base: 1040000}))
	wantRoundTrip(t, "long ways of both directions", grownNet(size{nodes: 3, ways: 20, segs: impl.MaxSegs, both: true, relations: 9, via: 2, turns: 400}))
	for name, pair := range limits() {
		wantRoundTrip(t, name, pair[0])
		if out := impl.EncodeNet(pair[1]); len(out) != 0 {
			t.Errorf("%s passed by one: %d bytes", name, len(out))
		}
	}
}

func TestEncodeRefusesWhatIsNotValid(t *testing.T) {
	for _, c := range brokenNets() {
		if out := impl.EncodeNet(c.net); len(out) != 0 {
			t.Errorf("%s: %d bytes", c.rule, len(out))
		}
	}
}

package tests

import (
	"slices"
	"testing"
	"time"

	"loop.example/s0019/impl"
)

func wantStep(t *testing.T, name string, a impl.Auto, state, edge, want int64) {
	t.Helper()
	if got := impl.StepAuto(a, state, edge); got != want {
		t.Errorf("%s: StepAuto(%d, %d) = %d, want %d", name, state, edge, got, want)
	}
}

func wantRun(t *testing.T, name string, a impl.Auto, walk []int64, want int64) {
	t.Helper()
	if got := impl.RunAuto(a, walk); got != want {
		t.Errorf("%s: RunAuto gives %d, want %d", name, got, want)
	}
}

// The words are nothing, 1, 2, 1 2, 2 1, 1 2 3, 2 1 2; no rule stands behind what may follow.
func freeWords(t *testing.T) impl.Auto {
	a := built(t, no(1, 2, 3), no(2, 1, 2))
	if want := []int64{-1, 0, 0, 2, 1, 0, 3}; !slices.Equal(a.Fail, want) {
		t.Fatalf("%v, want %v", a.Fail, want)
	}
	clear(a.Bad)
	return a
}

func TestStepAutoAnswersNone(t *testing.T) {
	a := freeWords(t)
	for _, c := range []struct {
		name              string
		state, edge, want int64
	}{
		{"state -1", -1, 1, -1}, {"the least state of all", -1 << 63, 1, -1}, {"the last state", 6, 9, 0},
		{"one past the last state", 7, 9, -1}, {"far past it", 1<<63 - 1, 9, -1},
		{"edge -1", 0, -1, -1}, {"edge 0", 0, 0, 0}, {"edge MaxEdges - 1", 0, impl.MaxEdges - 1, 0}, {"edge MaxEdges", 0, impl.MaxEdges, -1},
		{"edge MaxEdges at a longer word", 6, impl.MaxEdges, -1}, {"edge -1 at a longer word", 6, -1, -1}, {"edge -2", 3, -2, -1},
	} {
		wantStep(t, c.name, a, c.state, c.edge, c.want)
	}
	bad := copyAuto(a)
	bad.Bad[3] = true
	wantStep(t, "from a bad state to a word", bad, 3, 3, -1)
	wantStep(t, "from a bad state to nothing", bad, 3, 9, -1)
	wantStep(t, "into a bad state by its last edge", bad, 1, 2, -1)
	wantStep(t, "beside the bad state", bad, 1, 1, 1)
	wantStep(t, "from a state whose parent is bad", bad, 5, 1, 1)
	wantStep(t, "from a state whose fail is bad", bad, 6, 9, 0)
	wantStep(t, "into a state whose fail is bad", bad, 4, 2, 6)
	wantStep(t, "by a bad state's child, through its fail", bad, 6, 3, 5)
	bad = copyAuto(a)
	bad.Bad[5] = true
	wantStep(t, "into a bad state by falling back", bad, 6, 3, -1)
	must := copyAuto(a)
	must.Must[3] = 3
	wantStep(t, "the edge that must come", must, 3, 3, 5)
	wantStep(t, "another edge than must come", must, 3, 1, -1)
	wantStep(t, "what the fail must does not bind", must, 6, 1, 4)
	must.Must[3] = 1
	wantStep(t, "an edge that must come and makes no longer word", must, 3, 1, 4)
	wantStep(t, "the child that may not come", must, 3, 3, -1)
	must.Must[3] = 0
	wantStep(t, "edge 0 that must come", must, 3, 0, 0)
	wantStep(t, "another than edge 0", must, 3, 3, -1)
	must.Must[3] = impl.MaxEdges - 1
	wantStep(t, "the last edge that must come", must, 3, impl.MaxEdges-1, 0)
	must.Must[3] = impl.MustNothing
	for _, edge := range []int64{-2, -1, 0, 1, 2, 3, 3999} {
		wantStep(t, "nothing may come", must, 3, edge, -1)
	}
	must.Must[3], must.Bad[5] = 3, true
	wantStep(t, "the edge that must come leads into a bad state", must, 3, 3, -1)
	broken := copyAuto(a)
	broken.Fail[6] = 2
	wantStep(t, "not valid", broken, 0, 1, -1)
	wantStep(t, "no state", impl.Auto{}, 0, 1, -1)
}

func TestStepAutoFallsBack(t *testing.T) {
	// The words 1, 1 1, 1 1 1, 1 1 1 1, and 1 2 with its one number 3.
	a := built(t, no(1, 1, 1, 1, 9), no(1, 2, 9))
	clear(a.Bad)
	if want := []int64{-1, 0, 1, 1, 2, 3, 4, 6}; !slices.Equal(a.Parent, want) {
		t.Fatalf("%v, want %v", a.Parent, want)
	}
	for _, c := range []struct {
		name              string
		state, edge, want int64
	}{
		{"on to a longer word", 4, 1, 6}, {"a word is its own suffix's next", 6, 1, 6}, {"three links down to 1 2", 6, 2, 3}, {"two links down", 4, 2, 3},
		{"no link at all", 1, 2, 3}, {"one link down", 2, 2, 3}, {"all links down to nothing", 6, 3, 0}, {"all links down and one edge on", 5, 1, 1},
		{"nothing from nothing", 0, 2, 0}, {"the last edge of a word alone is no word", 3, 2, 0}, {"the end of a full word", 7, 1, 1},
	} {
		wantStep(t, c.name, a, c.state, c.edge, c.want)
	}
}

func TestRunAutoRules(t *testing.T) {
	cases := []struct {
		name  string
		rules []impl.Rule
		walk  []int64
		want  int64
	}{
		{"no rule", nil, []int64{0, 3999, 17}, 0},
		{"no rule, an edge too large", nil, []int64{0, 4000}, -1},
		{"no rule, an edge -1 first", nil, []int64{-1, 5}, -1},
		{"the empty walk", []impl.Rule{no(1, 2), only(1, 3)}, nil, 0},
		{"edges that no rule names", []impl.Rule{no(1, 2), only(3, 4)}, []int64{7, 8, 7, 3999, 0}, 0},
		{"a no rule broken at the end", []impl.Rule{no(1, 2)}, []int64{5, 1, 2}, -1},
		{"a no rule broken before the end", []impl.Rule{no(1, 2)}, []int64{1, 2, 5, 5}, -1},
		{"a no rule with an edge between", []impl.Rule{no(1, 2)}, []int64{1, 5, 2, 1}, 1},
		{"an only rule at the end of the walk", []impl.Rule{only(1, 2, 3)}, []int64{5, 1, 2}, 2},
		{"an only rule kept", []impl.Rule{only(1, 2, 3)}, []int64{1, 2, 3, 1}, 1},
		{"an only rule broken", []impl.Rule{only(1, 2, 3)}, []int64{1, 2, 4}, -1},
		{"an only rule broken by an edge that no rule names", []impl.Rule{only(1, 2)}, []int64{1, 3999}, -1},
		{"an only rule's beginning only in part", []impl.Rule{only(1, 2, 3)}, []int64{1, 5, 2, 4}, 0},
		{"a beginning that ends inside another's word", []impl.Rule{no(5, 6, 7, 8), only(6, 7, 9)}, []int64{5, 6, 7, 8}, -1},
		{"such a beginning, kept", []impl.Rule{no(5, 6, 7, 8), only(6, 7, 9)}, []int64{5, 6, 7, 9, 5, 6}, 3},
		{"a no rule inside another's word", []impl.Rule{no(5, 6, 7, 8), no(6, 7)}, []int64{5, 6, 7}, -1},
		{"an only rule that overlaps itself", []impl.Rule{only(1, 1)}, []int64{1, 1, 1, 1}, 1},
		{"it never lets go", []impl.Rule{only(1, 1)}, []int64{2, 1, 1, 2}, -1},
		{"a no rule that overlaps itself", []impl.Rule{no(1, 2, 1, 3)}, []int64{1, 2, 1, 2, 1, 2, 1}, 3},
		{"it falls back to its middle", []impl.Rule{no(1, 2, 1, 3)}, []int64{1, 2, 1, 2, 1, 3}, -1},
		{"two edges asked for", []impl.Rule{only(1, 2), only(1, 3)}, []int64{1}, 1},
		{"two edges asked for, one taken", []impl.Rule{only(1, 2), only(1, 3)}, []int64{1, 2}, -1},
		{"an only and a no rule of one sequence", []impl.Rule{only(1, 2), no(1, 2)}, []int64{1, 2}, -1},
		{"an only and a no rule of one sequence, neither way goes on", []impl.Rule{only(1, 2), no(1, 2)}, []int64{1, 3}, -1},
	}
	for _, c := range cases {
		a := built(t, c.rules...)
		wantRun(t, c.name, a, c.walk, c.want)
		inside := !slices.ContainsFunc(c.walk, func(edge int64) bool { return edge < 0 || edge >= impl.MaxEdges })
		if inside && keepsAll(c.rules, c.walk) != (c.want != -1) {
			t.Errorf("%s: the rules say otherwise", c.name)
		}
	}
}

func TestRunAutoWalkLength(t *testing.T) {
	a := built(t, no(1, 2), only(3, 3, 4))
	for _, c := range []struct {
		name       string
		last, want int64
	}{{"goes on", 1, 1}, {"is broken at the last edge", 2, -1}, {"ends in the beginning of a rule", 3, 2}, {"leaves the words", 5, 0}} {
		walk := append(run(1, 0, impl.MaxWalk-1), c.last)
		wantRun(t, c.name, a, walk, c.want)
		if keepsAll([]impl.Rule{no(1, 2), only(3, 3, 4)}, walk) != (c.want != -1) {
			t.Errorf("%s: the rules say otherwise", c.name)
		}
		wantRun(t, "one edge more", a, append([]int64{1}, walk...), -1)
	}
	wantRun(t, "MaxWalk edges", star(1), make([]int64, impl.MaxWalk), 0)
	wantRun(t, "one more", star(1), make([]int64, impl.MaxWalk+1), -1)
	wantRun(t, "far more", star(1), make([]int64, 5_000_000), -1)
	wantRun(t, "no automaton", impl.Auto{}, nil, -1)
	wantRun(t, "no automaton for an edge", impl.Auto{}, []int64{1}, -1)
}

// What a free automaton asks of a walk no rules would: a bad word whose longer words are not, a Must that its ends do not share.
func TestRunAutoFree(t *testing.T) {
	a := freeWords(t)
	a.Bad[1] = true
	wantRun(t, "the word 1 is bad", a, []int64{1}, -1)
	wantRun(t, "2 1 is not", a, []int64{2, 1}, 4)
	wantRun(t, "2 1 2 is not", a, []int64{2, 1, 2}, 6)
	wantRun(t, "2 1 2 3 ends in 1 2 3", a, []int64{2, 1, 2, 3}, 5)
	wantRun(t, "2 1 1 falls back to 1", a, []int64{2, 1, 1}, -1)
	a = freeWords(t)
	a.Must[2] = 1
	wantRun(t, "after 2 comes 1", a, []int64{2, 2}, -1)
	wantRun(t, "1 2 asks for nothing", a, []int64{1, 2, 2}, 2)
	wantRun(t, "and then 2 does again", a, []int64{1, 2, 2, 2}, -1)
}

func TestRunAutoInTime(t *testing.T) {
	deep := built(t, no(run(7, 0, impl.MaxRuleLen)...), no(append(run(7, 0, 400), 8, 8)...))
	var walk []int64
	for len(walk)+401 <= impl.MaxWalk {
		walk = append(append(walk, run(7, 0, 400)...), 9)
	}
	within(t, 10*time.Second, func() {
		for range 50 {
			wantRun(t, "a walk that falls back far", deep, walk, 0)
		}
	})
}

package tests

import (
	"slices"
	"testing"
	"time"

	"loop.example/s0019/impl"
)

func wantValid(t *testing.T, name string, a impl.Auto, want bool) {
	t.Helper()
	if got := impl.ValidAuto(a); got != want {
		t.Errorf("%s: %v", name, got)
	}
	answer := int64(-1)
	if want {
		answer = 0
	}
	if got := impl.RunAuto(a, nil); got != answer {
		t.Errorf("%s: the empty walk gives %d", name, got)
	}
	if !want && impl.StepAuto(a, 0, 3999) != -1 {
		t.Errorf("%s: a step is answered", name)
	}
}

func TestValidAutoCountsStates(t *testing.T) {
	wantValid(t, "no state at all", impl.Auto{}, false)
	wantValid(t, "empty lists", impl.Auto{Parent: []int64{}, Last: []int64{}, Fail: []int64{}, Must: []int64{}, Bad: []bool{}}, false)
	wantValid(t, "one state", star(1), true)
	wantValid(t, "two states", star(2), true)
	wantValid(t, "2000 states", star(2000), true)
	wantValid(t, "2001 states", star(2001), false)
	wantValid(t, "4001 states", star(4001), false)
}

func TestValidAutoAsksForEqualLengths(t *testing.T) {
	for _, rules := range [][]impl.Rule{nil, {no(1, 2)}, {no(1, 2, 1, 2), only(2, 1, 3)}} {
		a := built(t, rules...)
		last := len(a.Parent) - 1
		for k := range numbersOf(&a) {
			for _, number := range []int64{-2, -1, 0, 1, 3999} {
				b := copyAuto(a)
				list := numbersOf(&b)[k]
				*list = append(*list, number)
				wantValid(t, "a list one longer", b, false)
			}
			b := copyAuto(a)
			list := numbersOf(&b)[k]
			*list = (*list)[:last]
			wantValid(t, "a list one shorter", b, false)
			*list = nil
			wantValid(t, "a list gone", b, false)
			*list = make([]int64, 3000)
			wantValid(t, "a list of 3000", b, false)
		}
		b := copyAuto(a)
		b.Bad = append(b.Bad, false)
		wantValid(t, "Bad one longer", b, false)
		b.Bad = b.Bad[:last]
		wantValid(t, "Bad one shorter", b, false)
		b.Bad = nil
		wantValid(t, "Bad gone", b, false)
	}
}

func TestValidAutoRoot(t *testing.T) {
	for _, count := range []int{1, 3} {
		for k := range 4 {
			for _, number := range []int64{-3, -2, 0, 1, 2, 3999} {
				a := star(count)
				(*numbersOf(&a)[k])[0] = number
				wantValid(t, "state 0 changed", a, false)
			}
		}
		a := star(count)
		a.Bad[0] = true
		wantValid(t, "state 0 bad", a, false)
	}
}

func TestValidAutoWordLength(t *testing.T) {
	alike, apart, forked := star(1), star(1), star(1)
	for size := range int64(impl.MaxRuleLen + 1) {
		wantValid(t, "a word of one edge again and again", alike, true)
		alike = addState(alike, size, 7, size)
		apart = addState(apart, size, size, 0)
		forked = addState(forked, size, 3000+size, 0)
	}
	wantValid(t, "one edge more than MaxRuleLen, all alike", alike, false)
	wantValid(t, "one edge more than MaxRuleLen", apart, false)
	wantValid(t, "one edge more than MaxRuleLen, and a state after it", addState(forked, impl.MaxRuleLen, 3999, 0), false)
	whole := func(a impl.Auto) impl.Auto {
		count := impl.MaxRuleLen + 1
		return impl.Auto{Parent: a.Parent[:count], Last: a.Last[:count], Fail: a.Fail[:count], Must: a.Must[:count], Bad: a.Bad[:count]}
	}
	wantValid(t, "MaxRuleLen edges, all alike", whole(alike), true)
	wantValid(t, "MaxRuleLen edges", whole(apart), true)
	wantValid(t, "two words of MaxRuleLen edges", addState(whole(forked), impl.MaxRuleLen-1, 3999, 0), true)
}

func TestValidAutoMustAndBadAreFree(t *testing.T) {
	for number, want := range map[int64]bool{
		-1 << 63: false, -3: false, -2: true, -1: true, 0: true, 1: true, impl.MaxEdges - 1: true, impl.MaxEdges: false, 1<<63 - 1: false,
	} {
		for s := 1; s < 4; s++ {
			a := star(4)
			a.Must[s] = number
			wantValid(t, "Must changed", a, want)
			a.Bad[s] = true
			wantValid(t, "Must changed at a bad state", a, want)
		}
	}
	a := built(t, no(1, 2, 3, 4), only(2, 3, 1), no(2, 3, 3))
	for s := range a.Bad {
		a.Bad[s] = s > 0
	}
	wantValid(t, "all bad", a, true)
	a.Bad = make([]bool, len(a.Bad))
	wantValid(t, "none bad", a, true)
	for s := 1; s < len(a.Must); s++ {
		a.Must[s] = int64(3999 - s)
	}
	wantValid(t, "a Must at every state", a, true)
}

func TestValidAutoEdgesAndParents(t *testing.T) {
	for number, want := range map[int64]bool{-1: false, 0: true, impl.MaxEdges - 1: true, impl.MaxEdges: false, 1 << 40: false} {
		wantValid(t, "Last", addState(star(1), 0, number, 0), want)
		wantValid(t, "Last of a longer word", addState(addState(star(1), 0, 5, 0), 1, number, 0), want)
	}
	for number, want := range map[int64]bool{-2: false, -1: false, 0: true, 1: true, 2: true, 3: false, 4: false, 1 << 40: false} {
		wantValid(t, "Parent of the last state", addState(star(3), number, 77, 0), want)
	}
}

func TestValidAutoOrder(t *testing.T) {
	wantValid(t, "edges ascend", addState(addState(star(1), 0, 4, 0), 0, 5, 0), true)
	wantValid(t, "an edge repeated", addState(addState(star(1), 0, 4, 0), 0, 4, 0), false)
	wantValid(t, "edges descend", addState(addState(star(1), 0, 5, 0), 0, 4, 0), false)
	two := star(3)
	wantValid(t, "parents ascend, edges descend", addState(addState(two, 1, 9, 0), 2, 8, 0), true)
	two = star(3)
	wantValid(t, "parents ascend, edges equal", addState(addState(two, 1, 9, 0), 2, 9, 0), true)
	two = star(3)
	wantValid(t, "parents descend, edges ascend", addState(addState(two, 2, 8, 0), 1, 9, 0), false)
	two = star(3)
	wantValid(t, "a pair repeated far down", addState(addState(two, 2, 8, 0), 2, 8, 0), false)
	// The words 0, 1, 0 5 and then 2: a longer word before a shorter one.
	two = star(3)
	wantValid(t, "a longer word before a shorter one", addState(addState(two, 1, 5, 0), 0, 2, 0), false)
}

func TestValidAutoFail(t *testing.T) {
	// The words 5, 5 5, 5 5 5 and so on: every shorter one is a suffix.
	chain := star(1)
	for size := range int64(6) {
		chain = addState(chain, size, 5, size)
	}
	wantValid(t, "the longest suffix", chain, true)
	for s := range int64(7) {
		for number := int64(-2); number < 9; number++ {
			a := copyAuto(chain)
			a.Fail[s] = number
			wantValid(t, "another Fail", a, number == s-1)
		}
	}
	// The words 1, 2, 1 2, 2 1, 1 2 1, 2 1 2, 1 2 1 2.
	a := built(t, no(1, 2, 1, 2), no(2, 1, 2))
	if want := []int64{-1, 0, 0, 2, 1, 4, 3, 6}; !slices.Equal(a.Fail, want) {
		t.Fatalf("%v, want %v", a.Fail, want)
	}
	for _, c := range []struct {
		name        string
		state, fail int64
	}{
		{"a suffix that is not the longest", 7, 3}, {"a suffix still shorter", 7, 2}, {"the empty suffix", 7, 0}, {"itself", 7, 7},
		{"a word as long that is no suffix", 7, 5}, {"a beginning", 5, 3}, {"none", 7, -1}, {"past the last", 7, 8}, {"the empty one at one edge", 1, -1},
		{"another edge", 1, 2}, {"itself at one edge", 1, 1},
	} {
		b := copyAuto(a)
		b.Fail[c.state] = c.fail
		wantValid(t, c.name, b, false)
	}
}

func TestValidAutoInTime(t *testing.T) {
	deep := built(t, no(append(run(3999, 0, 400), 1)...), no(append(run(3999, 0, 400), 2)...))
	for edge := int64(3); len(deep.Parent) < impl.MaxStates; edge++ {
		deep = addState(deep, 400, edge, 0)
	}
	huge := make([]int64, 20_000_000)
	within(t, 20*time.Second, func() {
		for range 30 {
			wantValid(t, "many words that fall back far", deep, true)
			wantValid(t, "huge lists", impl.Auto{Parent: huge, Last: huge, Fail: huge, Must: huge, Bad: make([]bool, len(huge))}, false)
		}
	})
}

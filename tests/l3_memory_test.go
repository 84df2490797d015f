package tests

import (
	"slices"
	"testing"

	"loop.example/s0019/impl"
)

func manyRules() []impl.Rule {
	return []impl.Rule{no(1, 2, 3, 4), only(2, 3, 1), no(2, 3, 3), only(1, 2, 3), only(1, 2, 4), no(3999, 0), {Relation: 5, Only: true, Seq: []int64{0, 0}}}
}

func TestAutoLeavesArgumentsAlone(t *testing.T) {
	for _, rules := range [][]impl.Rule{nil, manyRules(), {no(1)}, {no(1, -1), only(4000, 2)}, combs(impl.MaxStates+1, true)} {
		before := copyRules(rules)
		impl.BuildAuto(rules)
		if !slices.EqualFunc(rules, before, sameRule) {
			t.Errorf("%v was changed", before)
		}
	}
	wrong := built(t, manyRules()...)
	wrong.Fail[3], wrong.Must[2] = 3, 9999
	for _, a := range []impl.Auto{built(t, manyRules()...), {}, wrong, star(2001)} {
		before := copyAuto(a)
		walk := []int64{1, 2, 5, 0, 3, 4000, -1}
		impl.ValidAuto(a)
		for state := range int64(4) {
			impl.StepAuto(a, state, 2)
		}
		impl.RunAuto(a, walk)
		impl.RunAuto(a, walk[:1])
		if !sameAuto(a, before) {
			t.Error("an automaton was changed")
		}
		if !slices.Equal(walk, []int64{1, 2, 5, 0, 3, 4000, -1}) {
			t.Errorf("the walk was changed to %v", walk)
		}
	}
}

func TestAutoIsNewMemory(t *testing.T) {
	rules := manyRules()
	before, want := copyRules(rules), refAuto(rules)
	for k := range numbersOf(&want) {
		a := built(t, rules...)
		spoiled := numbersOf(&a)[k]
		spoil(*spoiled)
		// What lies past a list's end must be no other list's memory either.
		spoil((*spoiled)[:cap(*spoiled)])
		for i, list := range numbersOf(&a) {
			if i != k && !slices.Equal(*list, *numbersOf(&want)[i]) {
				t.Errorf("list %d changed with list %d", i, k)
			}
		}
		clear(a.Bad)
		if !slices.EqualFunc(rules, before, sameRule) {
			t.Fatal("the rules hang on the automaton's memory")
		}
		if again := built(t, rules...); !sameAuto(again, want) {
			t.Fatalf("a later answer is %+v", again)
		}
	}
	a := built(t, rules...)
	for _, rule := range rules {
		spoil(rule.Seq)
	}
	if !sameAuto(a, want) {
		t.Error("the automaton hangs on the rules' memory")
	}
}

// An answer must not be remembered from an automaton that has changed since.
func TestAutoIsAskedAnew(t *testing.T) {
	a := built(t, no(1, 2))
	wantRun(t, "as built", a, []int64{1, 2}, -1)
	a.Bad[2] = false
	wantRun(t, "set free", a, []int64{1, 2}, 2)
	a.Must[1] = 3
	wantRun(t, "bound", a, []int64{1, 2}, -1)
	wantStep(t, "bound", a, 1, 3, 0)
	a.Fail[2] = 1
	wantRun(t, "no longer valid", a, []int64{1, 3}, -1)
	wantStep(t, "no longer valid", a, 0, 1, -1)
}

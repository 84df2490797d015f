package tests

import (
	"slices"
	"testing"

	"loop.example/s0019/impl"
)

var (
	_ func([]impl.Rule) impl.Built        = impl.BuildAuto
	_ func(impl.Auto) bool                = impl.ValidAuto
	_ func(impl.Auto, int64, int64) int64 = impl.StepAuto
	_ func(impl.Auto, []int64) int64      = impl.RunAuto
)

func no(seq ...int64) impl.Rule {
	return impl.Rule{Seq: seq}
}

func only(seq ...int64) impl.Rule {
	return impl.Rule{Only: true, Seq: seq}
}

// run is the list first, first + step, first + 2 * step, .. of count edges.
func run(first, step int64, count int) []int64 {
	var list []int64
	for i := range int64(count) {
		list = append(list, first+i*step)
	}
	return list
}

func sameAuto(a, b impl.Auto) bool {
	return slices.Equal(a.Parent, b.Parent) && slices.Equal(a.Last, b.Last) && slices.Equal(a.Fail, b.Fail) &&
		slices.Equal(a.Must, b.Must) && slices.Equal(a.Bad, b.Bad)
}

func copyAuto(a impl.Auto) impl.Auto {
	return impl.Auto{
		Parent: slices.Clone(a.Parent),
		Last:   slices.Clone(a.Last),
		Fail:   slices.Clone(a.Fail),
		Must:   slices.Clone(a.Must),
		Bad:    slices.Clone(a.Bad),
	}
}

func copyRules(rules []impl.Rule) []impl.Rule {
	out := slices.Clone(rules)
	for i := range out {
		out[i].Seq = slices.Clone(out[i].Seq)
	}
	return out
}

// numbersOf lists the four lists of numbers of an automaton.
func numbersOf(a *impl.Auto) []*[]int64 {
	return []*[]int64{&a.Parent, &a.Last, &a.Fail, &a.Must}
}

func built(t *testing.T, rules ...impl.Rule) impl.Auto {
	t.Helper()
	b := impl.BuildAuto(rules)
	if b.Code != 0 {
		t.Fatalf("%v: code %d", rules, b.Code)
	}
	return b.Auto
}

// star has the one-edge words 0 to count-2 beside the empty word.
func star(count int) impl.Auto {
	a := impl.Auto{Parent: []int64{-1}, Last: []int64{-1}, Fail: []int64{-1}, Must: []int64{-1}, Bad: []bool{false}}
	for edge := range int64(count - 1) {
		a = addState(a, 0, edge, 0)
	}
	return a
}

func addState(a impl.Auto, parent, last, fail int64) impl.Auto {
	a.Parent = append(a.Parent, parent)
	a.Last = append(a.Last, last)
	a.Fail = append(a.Fail, fail)
	a.Must = append(a.Must, impl.MustFree)
	a.Bad = append(a.Bad, false)
	return a
}

package tests

import (
	"slices"
	"testing"
	"time"

	"loop.example/s0019/impl"
)

func TestAutoConstants(t *testing.T) {
	got := []int{impl.MaxStates, impl.MaxRuleLen, impl.ErrRules, impl.ErrStates, impl.MustFree, impl.MustNothing}
	if want := []int{2000, 402, 12, 13, -1, -2}; !slices.Equal(got, want) {
		t.Errorf("%v, want %v", got, want)
	}
}

func TestBuildAuto(t *testing.T) {
	cases := []struct {
		name   string
		rules  []impl.Rule
		parent []int64
		last   []int64
		fail   []int64
		must   []int64
		bad    []int
	}{
		{"no rule", nil, []int64{-1}, []int64{-1}, []int64{-1}, []int64{-1}, nil},
		{"a no rule, all of it a word", []impl.Rule{no(7, 8)},
			[]int64{-1, 0, 1}, []int64{-1, 7, 8}, []int64{-1, 0, 0}, []int64{-1, -1, -1}, []int{2}},
		{"an only rule, its last edge no part of a word", []impl.Rule{only(7, 8)},
			[]int64{-1, 0}, []int64{-1, 7}, []int64{-1, 0}, []int64{-1, 8}, nil},
		{"the first and the last edge", []impl.Rule{no(3999, 0), only(0, 3999)},
			[]int64{-1, 0, 0, 2}, []int64{-1, 0, 3999, 0}, []int64{-1, 0, 0, 1}, []int64{-1, 3999, -1, 3999}, []int{3}},
		{"shared beginnings", []impl.Rule{no(1, 2, 3), no(1, 2, 4), only(1, 2, 5), only(1, 6)},
			[]int64{-1, 0, 1, 2, 2}, []int64{-1, 1, 2, 3, 4}, []int64{-1, 0, 0, 0, 0}, []int64{-1, 6, 5, -1, -1}, []int{3, 4}},
		{"a rule inside another's beginning", []impl.Rule{no(1, 2, 3), no(1, 2)},
			[]int64{-1, 0, 1, 2}, []int64{-1, 1, 2, 3}, []int64{-1, 0, 0, 0}, []int64{-1, -1, -1, -1}, []int{2, 3}},
		{"words by length, then by their edges", []impl.Rule{no(30, 1), no(4, 200), no(4, 30), only(5, 1, 9)},
			[]int64{-1, 0, 0, 0, 1, 1, 2, 3}, []int64{-1, 4, 5, 30, 30, 200, 1, 1}, []int64{-1, 0, 0, 0, 3, 0, 0, 0},
			[]int64{-1, -1, -1, -1, -1, -1, 9, -1}, []int{4, 5, 7}},
		{"a word that ends in a whole no rule", []impl.Rule{no(1, 2, 3, 4), no(2, 3)},
			[]int64{-1, 0, 0, 1, 2, 3, 5}, []int64{-1, 1, 2, 2, 3, 3, 4}, []int64{-1, 0, 0, 2, 0, 4, 0},
			[]int64{-1, -1, -1, -1, -1, -1, -1}, []int{4, 5, 6}},
		{"a word that ends in the beginning of an only rule", []impl.Rule{no(5, 6, 7), only(6, 7)},
			[]int64{-1, 0, 0, 1, 3}, []int64{-1, 5, 6, 6, 7}, []int64{-1, 0, 0, 2, 0}, []int64{-1, -1, 7, 7, -1}, []int{4}},
		{"two edges asked for at one word", []impl.Rule{only(1, 2), only(1, 3)},
			[]int64{-1, 0}, []int64{-1, 1}, []int64{-1, 0}, []int64{-1, -2}, nil},
		{"three edges asked for at one word, the first again last", []impl.Rule{only(1, 2), only(1, 3), only(1, 2)},
			[]int64{-1, 0}, []int64{-1, 1}, []int64{-1, 0}, []int64{-1, -2}, nil},
		{"two edges asked for by a word and its end", []impl.Rule{only(4, 1, 2), only(1, 3)},
			[]int64{-1, 0, 0, 2}, []int64{-1, 1, 4, 1}, []int64{-1, 0, 0, 1}, []int64{-1, 3, -1, -2}, nil},
		{"the same edge asked for by a word and its end", []impl.Rule{only(4, 1, 3), only(1, 3)},
			[]int64{-1, 0, 0, 2}, []int64{-1, 1, 4, 1}, []int64{-1, 0, 0, 1}, []int64{-1, 3, -1, 3}, nil},
		{"nothing may follow an end, so nothing the longer word", []impl.Rule{only(4, 1, 3), only(1, 3), only(1, 2)},
			[]int64{-1, 0, 0, 2}, []int64{-1, 1, 4, 1}, []int64{-1, 0, 0, 1}, []int64{-1, -2, -1, -2}, nil},
		{"what is asked for at the end of the end", []impl.Rule{no(1, 1, 1), only(1, 5)},
			[]int64{-1, 0, 1, 2}, []int64{-1, 1, 1, 1}, []int64{-1, 0, 1, 2}, []int64{-1, 5, 5, 5}, []int{3}},
		{"the same rule twice", []impl.Rule{no(1, 2), only(1, 2), no(1, 2), only(1, 2)},
			[]int64{-1, 0, 1}, []int64{-1, 1, 2}, []int64{-1, 0, 0}, []int64{-1, 2, -1}, []int{2}},
		{"any relation", []impl.Rule{{Relation: -1 << 63, Seq: []int64{1, 1}}, {Relation: 1<<63 - 1, Only: true, Seq: []int64{2, 2}}},
			[]int64{-1, 0, 0, 1}, []int64{-1, 1, 2, 1}, []int64{-1, 0, 0, 1}, []int64{-1, -1, 2, -1}, []int{3}},
	}
	for _, c := range cases {
		want := impl.Auto{Parent: c.parent, Last: c.last, Fail: c.fail, Must: c.must, Bad: make([]bool, len(c.parent))}
		for _, s := range c.bad {
			want.Bad[s] = true
		}
		// The order of the rules plays no part.
		for _, rules := range [][]impl.Rule{c.rules, backwards(c.rules)} {
			got := impl.BuildAuto(rules)
			if got.Code != 0 || !sameAuto(got.Auto, want) {
				t.Errorf("%s: %+v, want %+v", c.name, got, want)
			}
			if !impl.ValidAuto(got.Auto) {
				t.Errorf("%s: not valid", c.name)
			}
		}
	}
}

func backwards(rules []impl.Rule) []impl.Rule {
	out := slices.Clone(rules)
	slices.Reverse(out)
	return out
}

func wantNoStates(t *testing.T, name string, rules []impl.Rule, code int64) {
	t.Helper()
	got := impl.BuildAuto(rules)
	if got.Code != code || !sameAuto(got.Auto, impl.Auto{}) {
		t.Errorf("%s: code %d with %d states, want code %d and none", name, got.Code, len(got.Auto.Parent), code)
	}
}

func wantStates(t *testing.T, name string, rules []impl.Rule, count int) {
	t.Helper()
	got := impl.BuildAuto(rules)
	if got.Code != 0 || len(got.Auto.Parent) != count {
		t.Errorf("%s: code %d with %d states, want %d", name, got.Code, len(got.Auto.Parent), count)
	}
	if !impl.ValidAuto(got.Auto) {
		t.Errorf("%s: not valid", name)
	}
}

func TestBuildAutoRefusesRules(t *testing.T) {
	for _, mark := range []bool{false, true} {
		rule := func(seq ...int64) impl.Rule { return impl.Rule{Only: mark, Seq: seq} }
		for name, wrong := range map[string]impl.Rule{
			"no edge":                rule(),
			"one edge":               rule(1),
			"too long by one":        rule(run(0, 1, impl.MaxRuleLen+1)...),
			"edge -1 first":          rule(-1, 1, 2),
			"edge -1 between":        rule(1, -1, 2),
			"edge -1 last":           rule(1, 2, -1),
			"edge MaxEdges first":    rule(impl.MaxEdges, 1, 2),
			"edge MaxEdges between":  rule(1, impl.MaxEdges, 2),
			"edge MaxEdges last":     rule(1, 2, impl.MaxEdges),
			"an edge of 2^32":        rule(1<<32, 1),
			"the least edge of all":  rule(1, -1<<63),
			"the most edge of all":   rule(1<<63-1, 1),
			"a short rule's one end": rule(3, 4000),
		} {
			wantNoStates(t, name, []impl.Rule{wrong}, impl.ErrRules)
			wantNoStates(t, name+" after a good rule", []impl.Rule{no(1, 2), wrong}, impl.ErrRules)
			wantNoStates(t, name+" before a good rule", []impl.Rule{wrong, only(1, 2)}, impl.ErrRules)
		}
		short := 0
		if mark {
			short = 1
		}
		wantStates(t, "two edges", []impl.Rule{rule(0, 3999)}, 3-short)
		wantStates(t, "MaxRuleLen edges", []impl.Rule{rule(run(0, 1, impl.MaxRuleLen)...)}, impl.MaxRuleLen+1-short)
		wantStates(t, "MaxRuleLen times one edge", []impl.Rule{rule(run(3999, 0, impl.MaxRuleLen)...)}, impl.MaxRuleLen+1-short)
	}
}

func TestBuildAutoCountsRules(t *testing.T) {
	var nos, onlys, same []impl.Rule
	for i := range int64(impl.MaxRelations) {
		nos = append(nos, no(5, i))
		onlys = append(onlys, only(i, 5))
		same = append(same, only(3, 4))
	}
	wantStates(t, "MaxRelations no rules", nos, 1002)
	wantStates(t, "MaxRelations only rules", onlys, 1001)
	wantStates(t, "one rule MaxRelations times", same, 2)
	for _, rules := range [][]impl.Rule{nos, onlys, same} {
		wantNoStates(t, "one rule too many", append(rules, no(1, 2)), impl.ErrRules)
		wantNoStates(t, "one only rule too many", append(rules, only(3, 4)), impl.ErrRules)
	}
}

// combs gives rules of the given number of words, the empty one counted: five teeth that share nothing.
func combs(words int, mark bool) []impl.Rule {
	left := words - 1
	var rules []impl.Rule
	for first := int64(0); left > 0; first++ {
		size := min(left, impl.MaxRuleLen-1)
		if left-size == 1 {
			size--
		}
		left -= size
		if mark {
			size++
		}
		seq := append([]int64{first}, run(1000+first*500, 1, size-1)...)
		rules = append(rules, impl.Rule{Only: mark, Seq: seq})
	}
	return rules
}

func TestBuildAutoCountsStates(t *testing.T) {
	for _, mark := range []bool{false, true} {
		full, over := combs(impl.MaxStates, mark), combs(impl.MaxStates+1, mark)
		wantStates(t, "one state left", combs(impl.MaxStates-1, mark), impl.MaxStates-1)
		wantStates(t, "all states", full, impl.MaxStates)
		wantStates(t, "all states, each word twice", append(full, full...), impl.MaxStates)
		wantStates(t, "all states, and an only rule whose beginning is a word", append(full, only(0, 3999)), impl.MaxStates)
		wantNoStates(t, "one word more, of a new no rule", append(full, no(0, 3999)), impl.ErrStates)
		wantNoStates(t, "one word more, of a new only rule", append(full, only(3999, 3998)), impl.ErrStates)
		wantNoStates(t, "one state too many", over, impl.ErrStates)
		wantNoStates(t, "one state too many, backwards", backwards(over), impl.ErrStates)
		for _, wrong := range []impl.Rule{no(1), only(1, 4000), no(run(0, 1, impl.MaxRuleLen+1)...)} {
			wantNoStates(t, "both, the wrong rule last", append(over, wrong), impl.ErrRules)
			wantNoStates(t, "both, the wrong rule first", append([]impl.Rule{wrong}, over...), impl.ErrRules)
		}
	}
	many := slices.Repeat(combs(impl.MaxStates+1, false), 300)
	wantNoStates(t, "both, too many rules", many, impl.ErrRules)
}

// The states of 2000 are told by the second reading as well, with words that end in each other.
func TestBuildAutoLarge(t *testing.T) {
	rules := []impl.Rule{
		no(run(9, 0, 400)...), only(append(run(9, 0, 300), 8)...), no(append([]int64{8}, run(9, 0, 390)...)...),
		only(append([]int64{8, 8}, run(9, 0, 380)...)...), only(append(run(9, 0, 30), 7)...), no(run(0, 1, 402)...), only(run(100, 1, 400)...),
	}
	if got, want := impl.BuildAuto(rules), refAuto(rules); got.Code != 0 || !sameAuto(got.Auto, want) {
		t.Errorf("code %d, %d states, want %d", got.Code, len(got.Auto.Parent), len(want.Parent))
	}
}

// A thousand rules of full length, none alike, come to 402,000 words; and words that fall back far, at many ends.
func TestBuildAutoInTime(t *testing.T) {
	var wide, deep []impl.Rule
	for i := range int64(impl.MaxRelations) {
		wide = append(wide, no(run(i, 3, impl.MaxRuleLen)...))
		deep = append(deep, no(append(run(3999, 0, 400), i)...))
	}
	within(t, 10*time.Second, func() {
		for range 20 {
			if b := impl.BuildAuto(wide); b.Code != impl.ErrStates {
				t.Errorf("code %d", b.Code)
			}
			if b := impl.BuildAuto(deep); b.Code != 0 || len(b.Auto.Parent) != 1401 {
				t.Errorf("code %d with %d states", b.Code, len(b.Auto.Parent))
			}
		}
	})
}

package tests

import (
	"cmp"
	"math/rand"
	"slices"
	"testing"

	"loop.example/s0019/impl"
)

// A second reading of chapter 3, by the letter: words are lists of edges, and everything is asked of the lists themselves.

func refEndsWith(word, end []int64) bool {
	return len(word) >= len(end) && slices.Equal(word[len(word)-len(end):], end)
}

func refFind(words [][]int64, word []int64) int64 {
	return int64(slices.IndexFunc(words, func(w []int64) bool { return slices.Equal(w, word) }))
}

func refCompareWords(a, b []int64) int {
	return cmp.Or(cmp.Compare(len(a), len(b)), slices.Compare(a, b))
}

func refWords(rules []impl.Rule) [][]int64 {
	words := [][]int64{{}}
	for _, rule := range rules {
		longest := len(rule.Seq)
		if rule.Only {
			longest--
		}
		for size := 1; size <= longest; size++ {
			words = append(words, rule.Seq[:size])
		}
	}
	slices.SortFunc(words, refCompareWords)
	return slices.CompactFunc(words, func(a, b []int64) bool { return slices.Equal(a, b) })
}

// refFall answers the state of the longest suffix of the list that is a word, the list itself left out.
func refFall(words [][]int64, list []int64) int64 {
	for size := len(list) - 1; size >= 0; size-- {
		if at := refFind(words, list[len(list)-size:]); at >= 0 {
			return at
		}
	}
	return -1
}

func refMust(rules []impl.Rule, word []int64) int64 {
	must := int64(-1)
	for _, rule := range rules {
		last := len(rule.Seq) - 1
		if !rule.Only || !refEndsWith(word, rule.Seq[:last]) {
			continue
		}
		if must != -1 && must != rule.Seq[last] {
			return -2
		}
		must = rule.Seq[last]
	}
	return must
}

func refAuto(rules []impl.Rule) impl.Auto {
	var a impl.Auto
	words := refWords(rules)
	for _, word := range words {
		parent, last := int64(-1), int64(-1)
		if len(word) > 0 {
			parent = refFind(words, word[:len(word)-1])
			last = word[len(word)-1]
		}
		a.Parent = append(a.Parent, parent)
		a.Last = append(a.Last, last)
		a.Fail = append(a.Fail, refFall(words, word))
		a.Must = append(a.Must, refMust(rules, word))
		a.Bad = append(a.Bad, slices.ContainsFunc(rules, func(r impl.Rule) bool { return !r.Only && refEndsWith(word, r.Seq) }))
	}
	return a
}

// refSpell answers the words of an automaton whose parents come before their children.
func refSpell(a impl.Auto) [][]int64 {
	words := [][]int64{{}}
	for s := 1; s < len(a.Parent); s++ {
		words = append(words, slices.Concat(words[a.Parent[s]], a.Last[s:s+1]))
	}
	return words
}

func refValidAuto(a impl.Auto) bool {
	n := len(a.Parent)
	if n < 1 || n > 2000 || len(a.Last) != n || len(a.Fail) != n || len(a.Must) != n || len(a.Bad) != n {
		return false
	}
	if a.Parent[0] != -1 || a.Last[0] != -1 || a.Fail[0] != -1 || a.Must[0] != -1 || a.Bad[0] {
		return false
	}
	for s := 1; s < n; s++ {
		if a.Parent[s] < 0 || a.Parent[s] > int64(s)-1 || a.Last[s] < 0 || a.Last[s] > 3999 || a.Must[s] < -2 || a.Must[s] > 3999 {
			return false
		}
		if s > 1 && a.Parent[s] <= a.Parent[s-1] && (a.Parent[s] != a.Parent[s-1] || a.Last[s] <= a.Last[s-1]) {
			return false
		}
	}
	words := refSpell(a)
	for s, word := range words {
		if len(word) > 402 || a.Fail[s] != refFall(words, word) {
			return false
		}
	}
	return true
}

// refStep is asked of valid automata only.
func refStep(a impl.Auto, state, edge int64) int64 {
	if state < 0 || state >= int64(len(a.Parent)) || edge < 0 || edge > 3999 || a.Bad[state] {
		return -1
	}
	if a.Must[state] != -1 && a.Must[state] != edge {
		return -1
	}
	words := refSpell(a)
	list := slices.Concat(words[state], []int64{edge})
	next := refFind(words, list)
	if next < 0 {
		next = refFall(words, list)
	}
	if a.Bad[next] {
		return -1
	}
	return next
}

func refRun(a impl.Auto, walk []int64) int64 {
	state := int64(0)
	for _, edge := range walk {
		if state = refStep(a, state, edge); state == -1 {
			return -1
		}
	}
	return state
}

// tightRules have few edges and many rules, so that words share beginnings, end in each other and overlap themselves.
func tightRules(r *rand.Rand) []impl.Rule {
	edges := []int64{0, 1, 3999, 2, 17}[:1+r.Intn(5)]
	var rules []impl.Rule
	for range r.Intn(7) {
		rule := impl.Rule{Relation: r.Int63n(5) - 2, Only: r.Intn(2) == 0}
		for range 2 + r.Intn(4) {
			rule.Seq = append(rule.Seq, edges[r.Intn(len(edges))])
		}
		if len(rules) > 0 && r.Intn(3) == 0 {
			// A piece of another rule, with a new end.
			old := rules[r.Intn(len(rules))].Seq
			from := r.Intn(len(old) - 1)
			rule.Seq = append(slices.Clone(old[from:from+1+r.Intn(len(old)-from-1)]), rule.Seq[:1+r.Intn(2)]...)
		}
		rules = append(rules, rule)
	}
	return rules
}

// ruledWalk likes to keep the rules and to come near to breaking them.
func ruledWalk(r *rand.Rand, rules []impl.Rule) []int64 {
	var walk []int64
	for range r.Intn(16) {
		more := []int64{[]int64{0, 1, 2, 17, 3999, 5, 100}[r.Intn(7)]}
		if len(rules) > 0 && r.Intn(4) > 0 {
			seq := rules[r.Intn(len(rules))].Seq
			more = seq[:1+r.Intn(len(seq))]
		}
		longer := slices.Concat(walk, more)
		if keepsAll(rules, longer) || r.Intn(12) == 0 {
			walk = longer
		}
	}
	return walk
}

func keepsAll(rules []impl.Rule, walk []int64) bool {
	return !slices.ContainsFunc(rules, func(r impl.Rule) bool { return !refKeeps(r, walk) })
}

func TestAutoAgainstReference(t *testing.T) {
	r := rand.New(rand.NewSource(8))
	kept, broken, inherited, torn := 0, 0, 0, 0
	for range 4000 {
		rules := tightRules(r)
		before := copyRules(rules)
		want := refAuto(rules)
		got := impl.BuildAuto(rules)
		if got.Code != 0 || !sameAuto(got.Auto, want) {
			t.Fatalf("%v: %+v, want %+v", rules, got, want)
		}
		if !impl.ValidAuto(got.Auto) {
			t.Fatalf("%v: not valid", rules)
		}
		for _, must := range want.Must {
			if must == impl.MustNothing {
				torn++
			}
		}
		for s, bad := range want.Bad[1:] {
			if bad && want.Bad[want.Fail[s+1]] {
				inherited++
			}
		}
		for range 12 {
			walk := ruledWalk(r, rules)
			state := impl.RunAuto(got.Auto, walk)
			if (state != -1) != keepsAll(rules, walk) || state != refRun(want, walk) {
				t.Fatalf("%v: %v: state %d, want %d", rules, walk, state, refRun(want, walk))
			}
			if state == -1 {
				broken++
			} else if len(walk) > 3 {
				kept++
			}
		}
		if !slices.EqualFunc(rules, before, sameRule) {
			t.Fatal("the rules were changed")
		}
	}
	if kept < 5000 || broken < 5000 || inherited < 500 || torn < 500 {
		t.Errorf("kept %d, broken %d, inherited %d, torn %d", kept, broken, inherited, torn)
	}
}

// freeAuto is valid, but its Must and Bad come from no rules.
func freeAuto(r *rand.Rand) impl.Auto {
	a := refAuto(tightRules(r))
	for s := 1; s < len(a.Must); s++ {
		a.Must[s] = []int64{-1, -1, -1, -2, 0, 1, 2, 3999}[r.Intn(8)]
		a.Bad[s] = r.Intn(4) == 0
	}
	return a
}

func TestStepAgainstReference(t *testing.T) {
	r := rand.New(rand.NewSource(9))
	answers := map[string]int{}
	for range 500 {
		a := freeAuto(r)
		before := copyAuto(a)
		count := int64(len(a.Parent))
		if !impl.ValidAuto(a) {
			t.Fatalf("%+v is valid", a)
		}
		for state := int64(-1); state <= count; state++ {
			for _, edge := range []int64{-1, 0, 1, 2, 17, 100, 3999, 4000} {
				want := refStep(a, state, edge)
				if got := impl.StepAuto(a, state, edge); got != want {
					t.Fatalf("%+v: StepAuto(%d, %d) = %d, want %d", a, state, edge, got, want)
				}
				switch {
				case want == -1:
					answers["none"]++
				case want == 0:
					answers["root"]++
				case a.Parent[want] == state:
					answers["child"]++
				default:
					answers["fall"]++
				}
			}
		}
		for range 8 {
			walk := ruledWalk(r, nil)
			if got, want := impl.RunAuto(a, walk), refRun(a, walk); got != want {
				t.Fatalf("%+v: %v: %d, want %d", a, walk, got, want)
			}
		}
		if !sameAuto(a, before) {
			t.Fatal("the automaton was changed")
		}
	}
	for _, kind := range []string{"none", "root", "child", "fall"} {
		if answers[kind] < 500 {
			t.Errorf("%s was met only %d times", kind, answers[kind])
		}
	}
}

// Every entry of every list is changed to every number that could matter.
func TestValidAutoAgainstReference(t *testing.T) {
	r := rand.New(rand.NewSource(10))
	valid, broken := 0, 0
	check := func(a impl.Auto) {
		want := refValidAuto(a)
		if got := impl.ValidAuto(a); got != want {
			t.Fatalf("%+v: %v", a, got)
		}
		if want {
			valid++
			return
		}
		broken++
		if impl.StepAuto(a, 0, 0) != -1 || impl.RunAuto(a, nil) != -1 || impl.RunAuto(a, []int64{0}) != -1 {
			t.Fatalf("%+v is not valid, and a step is answered", a)
		}
	}
	for range 120 {
		a := refAuto(tightRules(r))
		count := int64(len(a.Parent))
		for s := range count {
			for _, list := range numbersOf(&a) {
				old := (*list)[s]
				for _, number := range []int64{-1 << 63, -3, -2, -1, 0, 1, 2, 3, 4, 17, s - 1, s, s + 1, count - 1, count, old - 1, old + 1, 3999, 4000, 1<<63 - 1} {
					(*list)[s] = number
					check(a)
				}
				(*list)[s] = old
			}
			a.Bad[s] = !a.Bad[s]
			check(a)
			a.Bad[s] = !a.Bad[s]
		}
		check(a)
	}
	if valid < 1000 || broken < 5000 {
		t.Errorf("valid %d, broken %d", valid, broken)
	}
}

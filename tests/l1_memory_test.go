package tests

import (
	"bytes"
	"slices"
	"testing"

	"loop.example/s0019/impl"
)

func TestArgumentsStayAsTheyWere(t *testing.T) {
	for _, given := range []string{sampleText, text("node 2", "node 1", "node 1"), text("node x"), "", "x"} {
		argument := []byte(given)
		impl.ParseNet(argument)
		if string(argument) != given {
			t.Errorf("ParseNet changed %q", given)
		}
	}
	nets := []impl.Net{sampleNet(), {}}
	for _, c := range brokenNets() {
		nets = append(nets, c.net)
	}
	for _, n := range nets {
		before := copyNet(n)
		impl.ValidNet(n)
		impl.EncodeNet(n)
		if !sameNet(n, before) {
			t.Errorf("%+v was changed", before)
		}
	}
}

func TestTextIsNotKept(t *testing.T) {
	argument := []byte(sampleText)
	p := impl.ParseNet(argument)
	for i := range argument {
		argument[i] = 'x'
	}
	if p.Code != 0 || !sameNet(p.Net, sampleNet()) {
		t.Error("the network hangs on the text's memory")
	}
	n := sampleNet()
	out := impl.EncodeNet(n)
	spoil(n.Nodes)
	if string(out) != sampleText {
		t.Error("the text hangs on the network's memory")
	}
}

// spoil writes all that a list owns, also what lies behind its length.
func spoil(list []int64) {
	list = list[:cap(list)]
	for i := range list {
		list[i] = -7
	}
}

func listsOf(n *impl.Net) []*[]int64 {
	lists := []*[]int64{&n.Nodes}
	for i := range n.Ways {
		lists = append(lists, &n.Ways[i].Nodes, &n.Ways[i].Weights)
	}
	for i := range n.Relations {
		lists = append(lists, &n.Relations[i].Ways)
	}
	return lists
}

func TestListsOfAnAnswerShareNothing(t *testing.T) {
	want := sampleNet()
	for k := range listsOf(&want) {
		p := impl.ParseNet([]byte(sampleText))
		spoil(*listsOf(&p.Net)[k])
		for i, list := range listsOf(&p.Net) {
			if i != k && !slices.Equal(*list, *listsOf(&want)[i]) {
				t.Errorf("list %d changed with list %d", i, k)
			}
		}
		wantRead(t, sampleText, want)
	}
}

func TestAnswersAreNewEachTime(t *testing.T) {
	for _, n := range []impl.Net{sampleNet(), {}} {
		first := impl.EncodeNet(n)
		want := bytes.Clone(first)
		for i := range first {
			first[i] = 'x'
		}
		if again := impl.EncodeNet(n); !bytes.Equal(again, want) {
			t.Errorf("a later text is %q, was %q", again, want)
		}
	}
}

package tests

import (
	"bytes"
	"slices"
	"testing"

	"loop.example/s0019/impl"
)

// roomy answers the text as a piece of a longer list, so that what is put at its end without a copy lands in the argument's memory.
func roomy(text string) (piece, whole []byte) {
	whole = append([]byte(text), bytes.Repeat([]byte{'#'}, 200)...)
	return whole[:len(text)], whole
}

func TestRoutesLeaveArgumentsAlone(t *testing.T) {
	wrong := smallGraph()
	wrong.First[2], wrong.To[1] = 9, -1
	for _, g := range []impl.Graph{smallGraph(), compiled(t, ruledNet(t)), {}, {First: []int64{0}}, wrong} {
		before := copyGraph(g)
		for s := int64(-1); s < 4; s++ {
			for to := int64(-1); to < 4; to++ {
				impl.Shortest(g, s, to)
			}
		}
		if !sameGraph(g, before) {
			t.Error("a graph was changed")
		}
	}
	texts := []string{exampleText, "", "x", "roadnet 1\n", "roadnet 1\nnode 1\n\n", textOf(ruledNet(t)), textOf(tangle(201, 1, false))}
	for _, given := range texts {
		for _, asked := range []string{"", "q 0 1", "q 0 1\nw 0 1\n\nx\n", string(bytes.Repeat([]byte("q 0 0\n"), 1001)), string(make([]byte, 70000))} {
			text, wholeText := roomy(given)
			script, wholeScript := roomy(asked)
			impl.Load(text)
			impl.Query(text, 0, 1)
			impl.Session(text, script)
			_, sameText := roomy(given)
			_, sameScript := roomy(asked)
			if !bytes.Equal(wholeText, sameText) {
				t.Errorf("the text %q was changed", given)
			}
			if !bytes.Equal(wholeScript, sameScript) {
				t.Errorf("the script %q was changed", asked)
			}
		}
	}
}

func TestRouteIsNewMemory(t *testing.T) {
	g := chain(5, 7, 3, 4)
	before := copyGraph(g)
	for _, c := range []struct {
		s, t int64
		want impl.Route
	}{{0, 4, found(27, g.EdgeOf...)}, {2, 4, found(11, 2, 3, 4)}, {1, 1, found(3, 1)}} {
		want := found(c.want.Cost, slices.Clone(c.want.Edges)...)
		route := impl.Shortest(g, c.s, c.t)
		wantRoute(t, "at first", route, want)
		spoil(route.Edges)
		if !sameGraph(g, before) {
			t.Fatal("the graph hangs on the route's memory")
		}
		wantRoute(t, "again", impl.Shortest(g, c.s, c.t), want)
		route = impl.Shortest(g, c.s, c.t)
		kept := copyGraph(g)
		for _, list := range graphLists(&g) {
			spoil(*list)
		}
		wantRoute(t, "the graph is gone", route, want)
		g = kept
	}
	text := []byte(exampleText)
	route := impl.Query(text, 0, 1)
	spoil(route.Edges)
	wantRoute(t, "again", impl.Query(text, 0, 1), found(19, 0, 1))
	route = impl.Query(text, 0, 1)
	clear(text)
	wantRoute(t, "the text is gone", route, found(19, 0, 1))
}

func TestLoadedIsNewMemory(t *testing.T) {
	given := textOf(ruledNet(t))
	want := refCompile(ruledNet(t))
	text := []byte(given)
	for k := range graphLists(&want) {
		g := impl.Load(text).Graph
		spoil(*graphLists(&g)[k])
		for i, list := range graphLists(&g) {
			if i != k && !slices.Equal(*list, *graphLists(&want)[i]) {
				t.Errorf("%s changed with %s", graphListNames[i], graphListNames[k])
			}
		}
		if string(text) != given {
			t.Fatal("the text hangs on the graph's memory")
		}
		if again := impl.Load(text).Graph; !sameGraph(again, want) {
			t.Fatalf("a later answer is\n%s", drawn(again))
		}
	}
	g := impl.Load(text).Graph
	clear(text)
	if !sameGraph(g, want) {
		t.Error("the graph hangs on the text's memory")
	}
}

func TestSessionIsNewMemory(t *testing.T) {
	text, script := []byte(exampleText), []byte("q 0 1\nx\nw 0\n")
	const want = exampleFirst + "route 19 0 1\nbadline\nlegal 5\n"
	answer := impl.Session(text, script)
	clear(answer[:cap(answer)])
	if string(text) != exampleText || string(script) != "q 0 1\nx\nw 0\n" {
		t.Error("an argument hangs on the answer's memory")
	}
	answer = impl.Session(text, script)
	if string(answer) != want {
		t.Errorf("a later answer is %q", answer)
	}
	clear(text)
	clear(script)
	if string(answer) != want {
		t.Error("the answer hangs on an argument's memory")
	}
}

// An answer must not be remembered from a graph or a text that has changed since.
func TestRoutesAreAskedAnew(t *testing.T) {
	g := sketched(t, "0: 1+1 2+5", "1: 2+1", "2:")
	wantRoute(t, "as it was", impl.Shortest(g, 0, 2), found(3, 0, 1, 2))
	g.Cost[2] = 9
	wantRoute(t, "another cost", impl.Shortest(g, 0, 2), found(6, 0, 2))
	g.Weight[0] = 7
	wantRoute(t, "another weight", impl.Shortest(g, 0, 2), found(12, 0, 2))
	g.To[2] = 3
	wantRoute(t, "no longer valid", impl.Shortest(g, 0, 2), impl.Route{Code: impl.RouteNotLoaded})
	g.To[2] = 2
	wantRoute(t, "valid again", impl.Shortest(g, 0, 2), found(12, 0, 2))
	text := []byte(exampleText)
	script := []byte("q 0 0\n")
	impl.Session(text, script)
	text[bytes.Index(text, []byte("10 b 1 5"))+7] = '8'
	wantRoute(t, "another text", impl.Query(text, 0, 0), found(8, 0))
	if got := string(impl.Session(text, script)); got != exampleFirst+"route 8 0\n" {
		t.Errorf("another text: %q", got)
	}
	script[2] = '2'
	if got := string(impl.Session(text, script)); got != exampleFirst+"noroute\n" {
		t.Errorf("another script: %q", got)
	}
}

package tests

import (
	"fmt"
	"math/rand"
	"slices"
	"strings"
	"testing"
	"time"

	"loop.example/s0019/impl"
)

// The network of section 1.6, and what a session on it begins with.
const (
	exampleText  = "roadnet 1\nuturn 9\nnode 1\nnode 2\nnode 3\nway 10 b 1 5 2\nway 11 f 2 7 3\nno 4 10 at 2 11\nturn 10 11 3\n"
	exampleFirst = "loaded 3 3 2\n"
)

func session(text, script string) string {
	return string(impl.Session([]byte(text), []byte(script)))
}

func wantSession(t *testing.T, name, text, script, want string) {
	t.Helper()
	if got := session(text, script); got != want {
		t.Errorf("%s: %q gives %q (%d bytes), want %q (%d bytes)", name, script[:min(len(script), 100)], got[:min(len(got), 400)], len(got), want[:min(len(want), 400)], len(want))
	}
}

func TestSessionExample(t *testing.T) {
	script := "q 0 1\nq 0 2\nq 1 0\nw 0 1 0 2\nw 1 0\nq 0 3\nhello\n"
	want := "loaded 3 3 2\nroute 19 0 1\nnoroute\nroute 19 1 0\nillegal 5 3 33\nlegal 19\nbadquery\nbadline\n"
	wantSession(t, "the example", exampleText, script, want)
	wantSession(t, "the example, its last line without an end", exampleText, strings.TrimSuffix(script, "\n"), want)
}

func TestSessionFirstLine(t *testing.T) {
	for _, c := range []struct{ name, text, want string }{
		{"the example", exampleText, exampleFirst},
		{"no way", "roadnet 1\n", "loaded 0 0 0\n"},
		{"nodes alone", "roadnet 1\nnode 1\n", "loaded 0 0 0\n"},
		{"more vertices than edges", onNodes(6, append([]string{"no 1 1 by 3 4"}, fork...)...), "loaded 5 6 5\n"},
		{"large counts", textOf(tangle(200, 1, false)), "loaded 200 200 40000\n"},
		{"no text", "", "refused 2 0\n"},
		{"another header", "roadnet 1 \n", "refused 3 1\n"},
		{"a wrong line", "roadnet 1\nnode 1\nnode 02\n", "refused 8 3\n"},
		{"a repeat far down", "roadnet 1\n" + nodeLines(1500) + "node 1\n", "refused 9 1502\n"},
		{"too long", strings.Repeat("x", impl.MaxText+1), "refused 1 0\n"},
		{"too many nodes", "roadnet 1\n" + nodeLines(impl.MaxNodes+1), "refused 11 0\n"},
		{"too many states", textOf(wheel(400, 400, 400, 400, 394)), "refused 13 0\n"},
		{"too many arcs", textOf(tangle(201, 1, false)), "refused 15 0\n"},
	} {
		wantSession(t, c.name+", no script", c.text, "", c.want)
		wantSession(t, c.name, c.text, "x\n", c.want+"badline\n")
		wantSession(t, c.name+", a script too long", c.text, strings.Repeat("q 0 0\n", 11000), c.want+"script too long\n")
		if strings.HasPrefix(c.want, "refused") {
			script := "q 0 0\nw 0\nq 0\nw\n\nq 0 0 0\nq 7 1048576\nw 3 3 3\nhello\nq 0 01\nq 0 1048577\n w 0\nw 0"
			wantSession(t, c.name, c.text, script, c.want+"notloaded\nnotloaded\nbadline\nbadline\nbadline\nbadline\nnotloaded\nnotloaded\nbadline\nbadline\nbadline\nbadline\nnotloaded\n")
		}
	}
	if got := string(impl.Session(nil, nil)); got != "refused 2 0\n" {
		t.Errorf("nil and nil: %q", got)
	}
	if got := string(impl.Session([]byte(exampleText), nil)); got != exampleFirst {
		t.Errorf("a nil script: %q", got)
	}
}

// Each line is asked alone, with and without its end, and between two others.
func TestSessionLines(t *testing.T) {
	for _, c := range []struct{ line, want string }{
		{"q 0 0", "route 5 0"}, {"q 2 2", "route 7 2"}, {"q 0 1", "route 19 0 1"}, {"q 0 2", "noroute"}, {"q 2 0", "noroute"},
		{"q 3 0", "badquery"}, {"q 0 3", "badquery"}, {"q 3 3", "badquery"}, {"q 1048576 0", "badquery"}, {"q 0 1048576", "badquery"}, {"q 1000000 999999", "badquery"},
		{"q", "badline"}, {"q 0", "badline"}, {"q 0 1 2", "badline"}, {"q 0 1 2 3", "badline"}, {"q x", "badline"}, {"q 0 x", "badline"}, {"q x 0", "badline"},
		{"w", "badline"}, {"w 0", "legal 5"}, {"w 2", "legal 7"}, {"w 0 1", "legal 19"}, {"w 0 1 0", "legal 33"}, {"w 0 1 0 1 0 1 0 1", "legal 103"},
		{"w 3", "illegal 3 0 0"}, {"w 0 3", "illegal 3 1 5"}, {"w 0 1 1048576", "illegal 3 2 19"}, {"w 0 0", "illegal 4 1 5"}, {"w 1 2", "illegal 4 1 5"},
		{"w 0 2", "illegal 5 1 5"}, {"w 0 1 0 2", "illegal 5 3 33"}, {"w 0 1 0 2 x", "badline"}, {"w x 0", "badline"},
		{"", "badline"}, {" ", "badline"}, {"  ", "badline"}, {"x", "badline"}, {"0", "badline"}, {"0 1", "badline"},
		{" q 0 1", "badline"}, {"q 0 1 ", "badline"}, {"q  0 1", "badline"}, {"q 0  1", "badline"}, {" w 0", "badline"}, {"w 0 ", "badline"}, {"w  0", "badline"},
		{"q\t0 1", "badline"}, {"q 0\t1", "badline"}, {"q 0 1\t", "badline"}, {"\tq 0 1", "badline"}, {"q 0 1\r", "badline"}, {"w 0\r", "badline"}, {"\r", "badline"},
		{"q 0 1\x00", "badline"}, {"q 0 1\x7f", "badline"}, {"q 0 \x801", "badline"}, {"q 0 \xc2\xa01", "badline"}, {"\xef\xbb\xbfq 0 1", "badline"},
		{"q 00 1", "badline"}, {"q 0 01", "badline"}, {"q 0 00", "badline"}, {"w 00", "badline"}, {"w 0 01", "badline"}, {"w 007", "badline"},
		{"q +0 1", "badline"}, {"q 0 +1", "badline"}, {"q -0 1", "badline"}, {"q 0 -1", "badline"}, {"q -1 0", "badline"}, {"w -1", "badline"}, {"w +0", "badline"},
		{"q 1048577 0", "badline"}, {"q 0 1048577", "badline"}, {"q 9999999 0", "badline"}, {"q 10000000 0", "badline"}, {"w 1048577", "badline"}, {"w 0 10485760", "badline"},
		{"q 0 4294967296", "badline"}, {"q 18446744073709551616 0", "badline"}, {"w 00000000000000000000000", "badline"}, {"q 0x0 1", "badline"}, {"q 0 1.0", "badline"}, {"q 0 1e0", "badline"}, {"q 0 1_0", "badline"},
		{"Q 0 1", "badline"}, {"W 0", "badline"}, {"qq 0 1", "badline"}, {"ww 0", "badline"}, {"qw 0 1", "badline"}, {"q0 1", "badline"}, {"w0", "badline"}, {"q, 0 1", "badline"}, {"\"q\" 0 1", "badline"},
		{"route 0 1", "badline"}, {"stop", "badline"}, {"loaded 3 3 2", "badline"}, {"node 1", "badline"}, {"roadnet 1", "badline"},
	} {
		answer := exampleFirst + c.want + "\n"
		wantSession(t, "alone", exampleText, c.line+"\n", answer)
		if c.line != "" {
			wantSession(t, "without an end", exampleText, c.line, answer)
		}
		wantSession(t, "after another", exampleText, "q 1 0\n"+c.line+"\n", exampleFirst+"route 19 1 0\n"+c.want+"\n")
		wantSession(t, "before another", exampleText, c.line+"\nw 1 0", answer+"legal 19\n")
		wantSession(t, "twice", exampleText, c.line+"\n"+c.line+"\n", answer+c.want+"\n")
		wantSession(t, "between two empty lines", exampleText, "\n"+c.line+"\n\n", exampleFirst+"badline\n"+c.want+"\nbadline\n")
	}
}

func TestSessionVerdicts(t *testing.T) {
	// Edges: 0 (1 to 2), 1 (4 to 2), 2 (2 to 3), 3 (3 to 5), 4 (3 to 6).
	given := onNodes(6, append([]string{"only 1 1 by 3 4", "no 2 2 by 3 4", "turn 1 3 900"}, fork...)...)
	first := "loaded 5 7 6\n"
	for _, c := range []struct{ line, want string }{
		{"w 0 2 3", "legal 980"}, {"w 0 2 4", "illegal 6 2 940"}, {"w 1 2 4", "legal 100"}, {"w 1 2 3", "illegal 5 2 50"},
		{"w 2 4", "legal 80"}, {"w 0 2", "legal 940"}, {"w 0 2 0", "illegal 4 2 940"}, {"w 0 2 5", "illegal 3 2 940"},
		{"q 0 3", "route 980 0 2 3"}, {"q 0 4", "noroute"}, {"q 1 4", "route 100 1 2 4"}, {"q 1 3", "noroute"}, {"q 2 3", "route 70 2 3"},
		{"q 5 0", "badquery"}, {"q 6 6", "badquery"},
	} {
		wantSession(t, "the fork", given, c.line, first+c.want+"\n")
	}
	// A walk may have at most MaxWalk edges, and a line as many numbers as the script has room for.
	loop := onNodes(1, "way 1 f 1 3 1")
	long := "w" + strings.Repeat(" 0", impl.MaxWalk)
	wantSession(t, "MaxWalk edges", loop, long+"\n", "loaded 1 1 1\nlegal 30000\n")
	wantSession(t, "one more", loop, long+" 0\n", "loaded 1 1 1\nillegal 2 0 0\n")
	wantSession(t, "one more that does not exist", loop, long+" 7\n", "loaded 1 1 1\nillegal 2 0 0\n")
	wantSession(t, "one more that is no number", loop, long+" x\n", "loaded 1 1 1\nbadline\n")
	wantSession(t, "as many as there is room for", loop, "w"+strings.Repeat(" 0", 32767), "loaded 1 1 1\nillegal 2 0 0\n")
	wantSession(t, "as many, and a space", loop, "w"+strings.Repeat(" 0", 32767)+" ", "loaded 1 1 1\nbadline\n")
	wantSession(t, "as many for a route", loop, "q"+strings.Repeat(" 0", 32767), "loaded 1 1 1\nbadline\n")
	wantSession(t, "no edge exists", "roadnet 1\n", "q 0 0\nw 0\n", "loaded 0 0 0\nbadquery\nillegal 3 0 0\n")
}

func TestSessionRoutes(t *testing.T) {
	// A street of 100 segments, and its weights at their most.
	line := "way 1 f 1"
	want := ""
	for id := range 100 {
		line += fmt.Sprint(" 1048576 ", id+2)
		want += fmt.Sprint(" ", id)
	}
	wantSession(t, "a long route", onNodes(101, line), "q 0 99\nq 99 99\nq 99 0\nq 98 99", "loaded 100 100 99\nroute 104857600"+want+"\nroute 1048576 99\nnoroute\nroute 2097152 98 99\n")
	wantSession(t, "a route at no cost", onNodes(2, "way 1 f 1 0 2", "way 2 f 2 0 1"), "q 0 1\nq 0 0\nw 0 1 0", "loaded 2 2 2\nroute 0 0 1\nroute 0 0\nlegal 0\n")
	wantSession(t, "the choice among equals", onNodes(3, "way 1 f 1 1 2", "way 2 f 2 2 3", "way 3 f 2 2 3", "way 4 f 3 1 1"), "q 0 3", "loaded 4 4 5\nroute 4 0 1 3\n")
}

func TestSessionCountsBytes(t *testing.T) {
	const tooLong = exampleFirst + "script too long\n"
	// 1000 lines with their ends: 999 of 64 bytes, and one with the rest.
	long := strings.Repeat(strings.Repeat("x", 63)+"\n", 999)
	long += strings.Repeat("x", impl.MaxScript-len(long)-1) + "\n"
	answers := exampleFirst + strings.Repeat("badline\n", 1000)
	wantSession(t, "MaxScript bytes", exampleText, long, answers)
	wantSession(t, "MaxScript bytes, the last line without an end", exampleText, long[:len(long)-1]+"x", answers)
	wantSession(t, "one byte more", exampleText, long+"\n", tooLong)
	wantSession(t, "one byte more, no end", exampleText, long+"x", tooLong)
	wantSession(t, "one line of MaxScript bytes", exampleText, strings.Repeat("x", impl.MaxScript), exampleFirst+"badline\n")
	wantSession(t, "one line of one byte more", exampleText, strings.Repeat("x", impl.MaxScript+1), tooLong)
	wantSession(t, "a question ahead of too many bytes", exampleText, "q 0 1\n"+strings.Repeat("x", impl.MaxScript), tooLong)
	wantSession(t, "too many bytes and too many lines", exampleText, strings.Repeat("\n", impl.MaxScript+1), tooLong)
	wantSession(t, "far too many bytes", exampleText, strings.Repeat("q 0 1\n", 1_000_000), tooLong)
	wantSession(t, "MaxScript bytes, too many lines", exampleText, strings.Repeat("\n", impl.MaxScript), answers+"stop\n")
}

func TestSessionCountsLines(t *testing.T) {
	for _, c := range []struct{ line, answer string }{{"", "badline"}, {"q 0 1", "route 19 0 1"}, {"w 0 2", "illegal 5 1 5"}, {"x", "badline"}} {
		lines := func(count int) string { return strings.Repeat(c.line+"\n", count) }
		answers := func(count int) string { return exampleFirst + strings.Repeat(c.answer+"\n", count) }
		wantSession(t, "one less than MaxQueries", exampleText, lines(999), answers(999))
		wantSession(t, "MaxQueries lines", exampleText, lines(1000), answers(1000))
		wantSession(t, "one more", exampleText, lines(1001), answers(1000)+"stop\n")
		wantSession(t, "two more", exampleText, lines(1002), answers(1000)+"stop\n")
		wantSession(t, "one more, empty", exampleText, lines(1000)+"\n", answers(1000)+"stop\n")
		wantSession(t, "one more without an end", exampleText, lines(1000)+"q 0 1", answers(1000)+"stop\n")
		wantSession(t, "the last of MaxQueries without an end", exampleText, lines(999)+"w 0", answers(999)+"legal 5\n")
		wantSession(t, "many more", exampleText, lines(5000), answers(1000)+"stop\n")
	}
	// What is no question and what is not loaded counts as well.
	wantSession(t, "refused", "", strings.Repeat("q 0 0\n\n", 500), "refused 2 0\n"+strings.Repeat("notloaded\nbadline\n", 500))
	wantSession(t, "refused, one more", "", strings.Repeat("q 0 0\n\n", 500)+"w 0", "refused 2 0\n"+strings.Repeat("notloaded\nbadline\n", 500)+"stop\n")
}

// refAnswer is the table of section 5.3, for one line.
func refAnswer(loaded impl.Loaded, n impl.Net, line string) string {
	fields := strings.Split(line, " ")
	var numbers []int64
	for _, field := range fields[1:] {
		if !refIsNumber(field) {
			return "badline"
		}
		var number int64
		fmt.Sscan(field, &number)
		numbers = append(numbers, number)
	}
	switch {
	case !refShape.MatchString(line), fields[0] != "q" && fields[0] != "w", fields[0] == "q" && len(numbers) != 2, len(numbers) == 0:
		return "badline"
	case loaded.Code != 0:
		return "notloaded"
	case fields[0] == "w":
		v := impl.Judge(n, numbers)
		if v.Code == 0 {
			return fmt.Sprint("legal ", v.Cost)
		}
		return fmt.Sprint("illegal ", v.Code, " ", v.At, " ", v.Cost)
	}
	route := impl.Shortest(loaded.Graph, numbers[0], numbers[1])
	switch route.Code {
	case 2:
		return "badquery"
	case 1:
		return "noroute"
	}
	out := fmt.Sprint("route ", route.Cost)
	for _, edge := range route.Edges {
		out += fmt.Sprint(" ", edge)
	}
	return out
}

func refSession(text, script string) string {
	loaded := impl.Load([]byte(text))
	out := fmt.Sprintf("refused %d %d\n", loaded.Code, loaded.Line)
	if loaded.Code == 0 {
		out = fmt.Sprintf("loaded %d %d %d\n", len(loaded.Graph.Start), len(loaded.Graph.EdgeOf), len(loaded.Graph.To))
	}
	n := impl.ParseNet([]byte(text)).Net
	lines := strings.Split(script, "\n")
	if lines[len(lines)-1] == "" {
		lines = lines[:len(lines)-1]
	}
	for _, line := range lines {
		out += refAnswer(loaded, n, line) + "\n"
	}
	return out
}

// randomScript has questions of all kinds and damaged ones. Every line has its end.
func randomScript(r *rand.Rand, n impl.Net) string {
	road := refRoad(n)
	rules := refResolve(n).Rules
	var b strings.Builder
	for range r.Intn(12) {
		line := fmt.Sprintf("q %d %d", r.Intn(len(road.Edges)+1), r.Intn(len(road.Edges)+1))
		if r.Intn(2) == 0 {
			line = "w"
			for _, edge := range randomWalk(r, road, rules) {
				line += fmt.Sprint(" ", max(0, edge))
			}
		}
		if r.Intn(6) == 0 {
			k := r.Intn(len(line) + 1)
			line = line[:k] + []string{" ", "0", "\t", "x", "-", "q", "\r", "99999999"}[r.Intn(8)] + line[k:]
		}
		if r.Intn(12) == 0 {
			k := r.Intn(len(line))
			line = line[:k] + line[k+1:]
		}
		b.WriteString(line + "\n")
	}
	return b.String()
}

// The promise itself: a script gives what its lines give one by one, in whatever order they stand.
func TestSessionAnswersEachLineByItself(t *testing.T) {
	r := rand.New(rand.NewSource(28))
	met := map[string]int{}
	for i := range 1500 {
		n := crowdedNet(r)
		given := textOf(n)
		if i%10 == 0 {
			given = damage(r, given)
		}
		one, two := randomScript(r, n), randomScript(r, n)
		first := session(given, "")
		answersTo := func(script string) string {
			answers, ok := strings.CutPrefix(session(given, script), first)
			if !ok {
				t.Fatalf("%s%q: does not begin with %q", given, script, first)
			}
			return answers
		}
		for _, script := range []string{one, two, one + two, strings.TrimSuffix(one, "\n")} {
			if got, want := session(given, script), refSession(given, script); got != want {
				t.Fatalf("%s%q: %q, want %q", given, script, got, want)
			}
		}
		if got := answersTo(one + two); got != answersTo(one)+answersTo(two) {
			t.Fatalf("%s%q and %q: %q", given, one, two, got)
		}
		lines := strings.SplitAfter(one, "\n")
		alone := make([]string, len(lines))
		for k, line := range lines {
			alone[k] = answersTo(line)
			met[strings.Fields(alone[k] + " nothing")[0]]++
		}
		order := r.Perm(len(lines))
		mixed, want := "", ""
		for _, k := range order {
			mixed, want = mixed+lines[k], want+alone[k]
		}
		if got := answersTo(mixed); got != want {
			t.Fatalf("%s%q: %q, want %q", given, mixed, got, want)
		}
	}
	for _, word := range []string{"route", "noroute", "badquery", "badline", "legal", "illegal", "notloaded"} {
		if met[word] < 100 {
			t.Errorf("%s: met only %d times", word, met[word])
		}
	}
}

func TestSessionInTime(t *testing.T) {
	n := grid(32)
	given := string(impl.EncodeNet(n))
	count := len(refRoad(n).Edges)
	var script strings.Builder
	for i := range impl.MaxQueries {
		if i%4 == 0 {
			fmt.Fprintf(&script, "w %d %d %d\n", i, (i+1)%count, i)
		} else {
			fmt.Fprintf(&script, "q %d %d\n", i, count-1-i)
		}
	}
	var answer string
	within(t, 60*time.Second, func() { answer = session(given, script.String()) })
	lines := strings.Split(answer, "\n")
	if len(lines) != impl.MaxQueries+2 || !strings.HasPrefix(lines[0], "loaded ") {
		t.Fatalf("%d lines", len(lines))
	}
	asked := strings.Split(script.String(), "\n")
	for _, i := range []int{0, 1, 2, 500, 501, 998, 999} {
		if want := refSession(given, asked[i]); want != lines[0]+"\n"+lines[i+1]+"\n" {
			t.Errorf("%s: %s, want %s", asked[i], lines[i+1], want)
		}
	}
	if !slices.ContainsFunc(lines, func(line string) bool { return len(line) > 200 }) {
		t.Error("no long route")
	}
}

func FuzzSession(f *testing.F) {
	for _, script := range []string{"", "\n", "q 0 1\nw 0 1 0 2", "w\nq\nq 0 0 0\n", "q 00 1\r\n w 0\n"} {
		f.Add(exampleText, script)
		f.Add("roadnet 1\n", script)
	}
	f.Fuzz(func(t *testing.T, text, script string) {
		got := session(text, script)
		if strings.Count(script, "\n") < impl.MaxQueries && len(script) <= impl.MaxScript && got != refSession(text, script) {
			t.Errorf("%q %q: %q", text, script, got)
		}
	})
}

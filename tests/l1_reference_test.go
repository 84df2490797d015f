package tests

import (
	"math/rand"
	"regexp"
	"slices"
	"strconv"
	"strings"
	"testing"

	"loop.example/s0019/impl"
)

// A second reading of sections 1.3 to 1.5, by pattern and without care for time. Random texts and networks hold the program against it.

var (
	refShape    = regexp.MustCompile(`^[!-~]+( [!-~]+)*$`)
	refNumber   = regexp.MustCompile(`^(0|[1-9][0-9]{0,6})$`)
	refRepeated = []*regexp.Regexp{
		regexp.MustCompile(`^(node) (\S+)$`),
		regexp.MustCompile(`^(way) (\S+) `),
		regexp.MustCompile(`^(?:no|only)() (\S+) `),
		regexp.MustCompile(`^(turn) (\S+ \S+) `),
		regexp.MustCompile(`^(uturn) ()`),
	}
)

func refIsNumber(field string) bool {
	if !refNumber.MatchString(field) {
		return false
	}
	v, _ := strconv.Atoi(field)
	return v <= 1048576
}

func refLine(line string) int64 {
	if !refShape.MatchString(line) {
		return 4
	}
	f := strings.Split(line, " ")
	n := len(f)
	relation := f[0] == "no" || f[0] == "only"
	numbers := slices.Clone(f[1:])
	switch {
	case !slices.Contains([]string{"node", "way", "no", "only", "turn", "uturn"}, f[0]):
		return 5
	case f[0] == "node" && n != 2, f[0] == "uturn" && n != 2, f[0] == "turn" && n != 4, relation && n < 6:
		return 6
	case f[0] == "way" && (n < 6 || n%2 == 1 || n > 204):
		return 6
	case f[0] == "way" && f[2] != "f" && f[2] != "b", relation && f[3] != "at" && f[3] != "by":
		return 7
	case relation && f[3] == "at" && n > 6, relation && f[3] == "by" && n > 9:
		return 6
	case f[0] == "way":
		numbers = slices.Delete(numbers, 1, 2)
	case relation:
		numbers = slices.Delete(numbers, 2, 3)
	}
	for _, field := range numbers {
		if !refIsNumber(field) {
			return 8
		}
	}
	return 0
}

func refSelf(line string) string {
	for _, p := range refRepeated {
		if m := p.FindStringSubmatch(line); m != nil {
			return m[1] + "/" + m[2]
		}
	}
	return ""
}

func refDangles(line string, declared []string) bool {
	f := strings.Split(line, " ")
	var uses []string
	switch f[0] {
	case "way":
		for i := 3; i < len(f); i += 2 {
			uses = append(uses, "node/"+f[i])
		}
	case "turn":
		uses = []string{"way/" + f[1], "way/" + f[2]}
	case "no", "only":
		uses = []string{"way/" + f[2], "way/" + f[len(f)-1]}
		for _, via := range f[4 : len(f)-1] {
			uses = append(uses, map[string]string{"at": "node/", "by": "way/"}[f[3]]+via)
		}
	}
	return slices.ContainsFunc(uses, func(u string) bool { return !slices.Contains(declared, u) })
}

// refCode leaves out the lengths and counts, which the tests with fixed texts hold.
func refCode(text string) (code, line int64) {
	if !strings.HasSuffix(text, "\n") {
		return 2, 0
	}
	lines := strings.Split(strings.TrimSuffix(text, "\n"), "\n")
	if lines[0] != "roadnet 1" {
		return 3, 1
	}
	for i, l := range lines[1:] {
		if code := refLine(l); code != 0 {
			return code, int64(i + 2)
		}
	}
	var selves []string
	for i, l := range lines[1:] {
		if slices.Contains(selves, refSelf(l)) {
			return 9, int64(i + 2)
		}
		selves = append(selves, refSelf(l))
	}
	for i, l := range lines[1:] {
		if refDangles(l, selves) {
			return 10, int64(i + 2)
		}
	}
	return 0, 0
}

// randomNet is valid, small, and crowded enough for ids to meet.
func randomNet(r *rand.Rand) impl.Net {
	n := impl.Net{UTurn: int64(r.Intn(3))}
	for id := range int64(12) {
		if r.Intn(3) > 0 || id == 4 {
			n.Nodes = append(n.Nodes, id)
		}
	}
	node := func() int64 { return n.Nodes[r.Intn(len(n.Nodes))] }
	for id := range int64(9) {
		if r.Intn(2) == 0 && id != 3 {
			continue
		}
		w := impl.Way{ID: id, Both: r.Intn(2) == 0, Nodes: []int64{node()}}
		for range 1 + r.Intn(4) {
			w.Nodes = append(w.Nodes, node())
			w.Weights = append(w.Weights, int64(r.Intn(impl.MaxNumber+1)))
		}
		n.Ways = append(n.Ways, w)
	}
	way := func() int64 { return n.Ways[r.Intn(len(n.Ways))].ID }
	for id := range int64(r.Intn(6)) {
		rel := impl.Relation{ID: id * 2, Only: r.Intn(2) == 0, From: way(), To: way(), ViaNode: r.Intn(2) == 0}
		if rel.ViaNode {
			rel.Node = node()
		}
		for !rel.ViaNode && (len(rel.Ways) == 0 || len(rel.Ways) < impl.MaxVia && r.Intn(2) == 0) {
			rel.Ways = append(rel.Ways, way())
		}
		n.Relations = append(n.Relations, rel)
	}
	for _, from := range n.Ways {
		for _, to := range n.Ways {
			if r.Intn(4) == 0 {
				n.Turns = append(n.Turns, impl.TurnCost{From: from.ID, To: to.ID, Cost: int64(r.Intn(5))})
			}
		}
	}
	return n
}

// damage makes one small random change to the lines of a text.
func damage(r *rand.Rand, text string) string {
	lines := strings.SplitAfter(text, "\n")
	i := r.Intn(len(lines))
	fields := strings.Split(lines[i], " ")
	words := []string{"node", "way", "no", "only", "turn", "uturn", "f", "b", "at", "by", "0", "1", "3", "5", "01", "-1", "1048576", "1048577", "x", ""}
	switch r.Intn(7) {
	case 0:
		lines = slices.Delete(lines, i, i+1)
	case 1:
		lines = slices.Insert(lines, r.Intn(len(lines)), lines[i])
	case 2:
		fields[r.Intn(len(fields))] = words[r.Intn(len(words))]
		lines[i] = strings.Join(fields, " ")
	case 3:
		lines[i] = strings.Join(slices.Insert(fields, r.Intn(len(fields)), words[r.Intn(len(words))]), " ")
	case 4:
		j := r.Intn(len(fields))
		lines[i] = strings.Join(slices.Delete(fields, j, j+1), " ")
	default:
		out := []byte(text)
		k := r.Intn(len(out))
		const bytes = "019 x\n\t\x7fnofw"
		out[k] = bytes[r.Intn(len(bytes))]
		return string(out)
	}
	return strings.Join(lines, "")
}

func TestParseAgainstReference(t *testing.T) {
	r := rand.New(rand.NewSource(2))
	met := map[int64]int{}
	for range 30000 {
		n := randomNet(r)
		lines := strings.Split(strings.TrimSuffix(textOf(n), "\n"), "\n")[1:]
		r.Shuffle(len(lines), func(i, j int) { lines[i], lines[j] = lines[j], lines[i] })
		given := text(lines...)
		wantRead(t, given, n)
		for range r.Intn(4) {
			if given != "" {
				given = damage(r, given)
			}
		}
		code, line := refCode(given)
		met[code]++
		p := impl.ParseNet([]byte(given))
		if p.Code != code || p.Line != line || code != 0 && !sameNet(p.Net, impl.Net{}) || !impl.ValidNet(p.Net) {
			t.Fatalf("%q: code %d line %d, want %d %d", given, p.Code, p.Line, code, line)
		}
		if code == 0 {
			wantRoundTrip(t, given, p.Net)
		}
	}
	for _, code := range []int64{0, 2, 3, 4, 5, 6, 7, 8, 9, 10} {
		if met[code] < 20 {
			t.Errorf("code %d was met only %d times", code, met[code])
		}
	}
}

// refValid holds a small network that textOf can write to be valid exactly if its lines, as they stand, are read and are in order already.
func refValid(n impl.Net) bool {
	code, _ := refCode(textOf(n))
	return code == 0 && slices.IsSorted(n.Nodes) &&
		slices.IsSortedFunc(n.Ways, func(a, b impl.Way) int { return int(a.ID - b.ID) }) &&
		slices.IsSortedFunc(n.Relations, func(a, b impl.Relation) int { return int(a.ID - b.ID) }) &&
		slices.IsSortedFunc(n.Turns, func(a, b impl.TurnCost) int { return int((a.From-b.From)*16 + a.To - b.To) })
}

func TestValidNetAgainstReference(t *testing.T) {
	r := rand.New(rand.NewSource(3))
	met := map[bool]int{}
	for range 20000 {
		n := randomNet(r)
		for range 1 + r.Intn(2) {
			lists := listsOf(&n)
			if list := *lists[r.Intn(len(lists))]; len(list) > 0 {
				list[r.Intn(len(list))] = int64(r.Intn(14)) - 1
			}
			way := &n.Ways[r.Intn(len(n.Ways))]
			way.ID = max(0, way.ID+int64(r.Intn(3))-1)
			if k := len(n.Turns); k > 0 {
				turn := &n.Turns[r.Intn(k)]
				turn.To = max(0, turn.To+int64(r.Intn(3))-1)
			}
			if k := len(n.Relations); k > 0 {
				n.Relations[r.Intn(k)].ID += int64(r.Intn(4)) - 1
			}
		}
		want := refValid(n)
		met[want]++
		if impl.ValidNet(n) != want {
			t.Fatalf("%+v: want %v", n, want)
		}
		if out := impl.EncodeNet(n); (len(out) > 0) != want {
			t.Fatalf("%+v: %d bytes", n, len(out))
		}
	}
	if met[true] < 500 || met[false] < 500 {
		t.Errorf("%d valid, %d not", met[true], met[false])
	}
}

func FuzzParseNet(f *testing.F) {
	f.Add([]byte(sampleText))
	for _, c := range wrongLines {
		f.Add([]byte(text("node 1", c.line)))
	}
	f.Fuzz(func(t *testing.T, given []byte) {
		if len(given) > 20000 {
			return
		}
		code, line := refCode(string(given))
		p := impl.ParseNet(given)
		if p.Code == impl.ErrLimit {
			return
		}
		if p.Code != code || p.Line != line || !impl.ValidNet(p.Net) {
			t.Fatalf("code %d line %d, want %d %d", p.Code, p.Line, code, line)
		}
	})
}

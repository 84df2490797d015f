package impl

import (
	"bytes"
	"cmp"
	"errors"
	"slices"
	"strconv"
	"strings"
)

const MaxText = 300000
const MaxNumber = 1048576
const MaxNodes = 2000
const MaxWays = 2000
const MaxSegs = 100
const MaxEdges = 4000
const MaxRelations = 1000
const MaxVia = 4
const MaxTurns = 2000

const ErrTooLong = 1
const ErrNoEnd = 2
const ErrHeader = 3
const ErrShape = 4
const ErrWord = 5
const ErrCount = 6
const ErrKey = 7
const ErrNumber = 8
const ErrRepeat = 9
const ErrDangling = 10
const ErrLimit = 11

type Way struct {
	ID      int64
	Both    bool
	Nodes   []int64
	Weights []int64
}

type Relation struct {
	ID      int64
	Only    bool
	From    int64
	To      int64
	ViaNode bool
	Node    int64
	Ways    []int64
}

type TurnCost struct {
	From int64
	To   int64
	Cost int64
}

type Net struct {
	Nodes     []int64
	Ways      []Way
	Relations []Relation
	Turns     []TurnCost
	UTurn     int64
}

type Parsed struct {
	Code int64
	Line int64
	Net  Net
}

// The kinds keep the ids of nodes, ways and relations apart: each has a world of its own.
const (
	kindNode = iota
	kindWay
	kindRelation
	kindTurn
	kindUTurn
)

const netHeader = "roadnet 1"

// A netName is what a line declares or speaks of. Two lines with the same
// name repeat each other, so a turn cost is named by both its ways.
type netName struct {
	kind   int64
	first  int64
	second int64
}

// A netLine is what steps over the whole text need to know of one line.
type netLine struct {
	number int64
	self   netName
	uses   []netName
}

// A netFault is why a text is refused: a code of section 1.5 and its line.
type netFault struct {
	code int64
	line int64
}

func (f *netFault) Error() string {
	return "code " + strconv.FormatInt(f.code, 10) + " at line " + strconv.FormatInt(f.line, 10)
}

// A stepFault says in which step of the reading a fault came up.
type stepFault struct {
	step string
	err  error
}

func (s *stepFault) Error() string {
	return s.step + ": " + s.err.Error()
}

func (s *stepFault) Unwrap() error {
	return s.err
}

func ParseNet(text []byte) Parsed {
	net, err := readNet(text)
	var fault *netFault
	if errors.As(err, &fault) {
		return Parsed{Code: fault.code, Line: fault.line}
	}
	return Parsed{Net: net}
}

func readNet(text []byte) (Net, error) {
	lines, err := cutText(text)
	if err != nil {
		return Net{}, &stepFault{"step A", err}
	}
	reader := &netReader{}
	if err := reader.readLines(lines); err != nil {
		return Net{}, &stepFault{"step B", err}
	}
	if err := reader.checkWhole(); err != nil {
		return Net{}, &stepFault{"step C", err}
	}
	reader.sortLists()
	return reader.net, nil
}

// cutText answers the lines after the header, without their ends.
func cutText(text []byte) ([][]byte, error) {
	if len(text) > MaxText {
		return nil, &netFault{ErrTooLong, 0}
	}
	last := len(text) - 1
	if last < 0 || text[last] != '\n' {
		return nil, &netFault{ErrNoEnd, 0}
	}
	lines := bytes.Split(text[:last], []byte{'\n'})
	if string(lines[0]) != netHeader {
		return nil, &netFault{ErrHeader, 1}
	}
	return lines[1:], nil
}

// A netReader gathers the network line by line. Names are only noted while
// lines are read: a later line may declare what an earlier one speaks of.
type netReader struct {
	net   Net
	line  int64
	lines []netLine
}

func (r *netReader) readLines(lines [][]byte) error {
	words := map[string]func([]string) error{
		"node":  r.readNode,
		"way":   r.readWay,
		"no":    r.readNo,
		"only":  r.readOnly,
		"turn":  r.readTurn,
		"uturn": r.readUTurn,
	}
	for i, line := range lines {
		// Line 1 is the header, so the first of these is line 2.
		r.line = int64(i) + 2
		fields, ok := splitFields(line)
		if !ok {
			return r.refuse(ErrShape)
		}
		read, ok := words[fields[0]]
		if !ok {
			return r.refuse(ErrWord)
		}
		if err := read(fields); err != nil {
			return err
		}
	}
	return nil
}

func (r *netReader) refuse(code int64) error {
	return &netFault{code, r.line}
}

func (r *netReader) note(self netName, uses ...netName) {
	r.lines = append(r.lines, netLine{r.line, self, uses})
}

func (r *netReader) readNode(fields []string) error {
	if len(fields) != 2 {
		return r.refuse(ErrCount)
	}
	numbers, err := r.readNumbers(fields[1:])
	if err != nil {
		return err
	}
	r.net.Nodes = append(r.net.Nodes, numbers[0])
	r.note(nodeName(numbers[0]))
	return nil
}

func (r *netReader) readWay(fields []string) error {
	count := len(fields)
	if count < 6 || count%2 != 0 || count > 4+2*MaxSegs {
		return r.refuse(ErrCount)
	}
	direction := fields[2]
	if direction != "f" && direction != "b" {
		return r.refuse(ErrKey)
	}
	numbers, err := r.readNumbers(slices.Concat(fields[1:2], fields[3:]))
	if err != nil {
		return err
	}
	way := Way{ID: numbers[0], Both: direction == "b"}
	var uses []netName
	for i, number := range numbers[1:] {
		if i%2 == 1 {
			way.Weights = append(way.Weights, number)
			continue
		}
		way.Nodes = append(way.Nodes, number)
		uses = append(uses, nodeName(number))
	}
	r.net.Ways = append(r.net.Ways, way)
	r.note(wayName(way.ID), uses...)
	return nil
}

func (r *netReader) readNo(fields []string) error {
	return r.readRelation(fields, false)
}

func (r *netReader) readOnly(fields []string) error {
	return r.readRelation(fields, true)
}

func (r *netReader) readRelation(fields []string, only bool) error {
	count := len(fields)
	if count < 6 {
		return r.refuse(ErrCount)
	}
	key := fields[3]
	if key != "at" && key != "by" {
		return r.refuse(ErrKey)
	}
	if key == "at" && count > 6 || key == "by" && count > 5+MaxVia {
		return r.refuse(ErrCount)
	}
	numbers, err := r.readNumbers(slices.Concat(fields[1:3], fields[4:]))
	if err != nil {
		return err
	}
	last := len(numbers) - 1
	relation := Relation{ID: numbers[0], Only: only, From: numbers[1], To: numbers[last], ViaNode: key == "at"}
	uses := []netName{wayName(relation.From), wayName(relation.To)}
	for _, number := range numbers[2:last] {
		if relation.ViaNode {
			relation.Node = number
			uses = append(uses, nodeName(number))
			continue
		}
		relation.Ways = append(relation.Ways, number)
		uses = append(uses, wayName(number))
	}
	r.net.Relations = append(r.net.Relations, relation)
	r.note(netName{kind: kindRelation, first: relation.ID}, uses...)
	return nil
}

func (r *netReader) readTurn(fields []string) error {
	if len(fields) != 4 {
		return r.refuse(ErrCount)
	}
	numbers, err := r.readNumbers(fields[1:])
	if err != nil {
		return err
	}
	turn := TurnCost{From: numbers[0], To: numbers[1], Cost: numbers[2]}
	r.net.Turns = append(r.net.Turns, turn)
	r.note(netName{kindTurn, turn.From, turn.To}, wayName(turn.From), wayName(turn.To))
	return nil
}

func (r *netReader) readUTurn(fields []string) error {
	if len(fields) != 2 {
		return r.refuse(ErrCount)
	}
	numbers, err := r.readNumbers(fields[1:])
	if err != nil {
		return err
	}
	r.net.UTurn = numbers[0]
	r.note(netName{kind: kindUTurn})
	return nil
}

func (r *netReader) readNumbers(fields []string) ([]int64, error) {
	numbers, ok := readNumbers(fields)
	if !ok {
		return nil, r.refuse(ErrNumber)
	}
	return numbers, nil
}

// checkWhole is step C. It looks for repeats over all lines before any name
// is missed, so a dangling name on an early line yields to a late repeat.
func (r *netReader) checkWhole() error {
	declared := make(map[netName]int64, len(r.lines))
	for _, line := range r.lines {
		if _, ok := declared[line.self]; ok {
			return &netFault{ErrRepeat, line.number}
		}
		declared[line.self] = line.number
	}
	for _, line := range r.lines {
		for _, name := range line.uses {
			if _, ok := declared[name]; !ok {
				return &netFault{ErrDangling, line.number}
			}
		}
	}
	if !withinCounts(r.net) {
		return &netFault{ErrLimit, 0}
	}
	return nil
}

func (r *netReader) sortLists() {
	slices.Sort(r.net.Nodes)
	slices.SortFunc(r.net.Ways, compareWays)
	slices.SortFunc(r.net.Relations, compareRelations)
	slices.SortFunc(r.net.Turns, compareTurns)
}

func nodeName(id int64) netName {
	return netName{kind: kindNode, first: id}
}

func wayName(id int64) netName {
	return netName{kind: kindWay, first: id}
}

// splitFields answers the fields of a line, and false if the line is not
// fields with single spaces between them.
func splitFields(line []byte) ([]string, bool) {
	afterSpace := true
	for _, b := range line {
		if b < ' ' || b > '~' || b == ' ' && afterSpace {
			return nil, false
		}
		afterSpace = b == ' '
	}
	if afterSpace {
		return nil, false
	}
	return strings.Split(string(line), " "), true
}

// readNumber takes only what section 1.4 calls a number; strconv would take
// signs and leading zeros as well.
func readNumber(field string) (int64, bool) {
	if field == "" || len(field) > 7 || field[0] == '0' && len(field) > 1 {
		return 0, false
	}
	number := int64(0)
	for i := range len(field) {
		digit := field[i]
		if digit < '0' || digit > '9' {
			return 0, false
		}
		number = number*10 + int64(digit-'0')
	}
	if number > MaxNumber {
		return 0, false
	}
	return number, true
}

// readNumbers answers false if one of the fields is not a number.
func readNumbers(fields []string) ([]int64, bool) {
	numbers := make([]int64, 0, len(fields))
	for _, field := range fields {
		number, ok := readNumber(field)
		if !ok {
			return nil, false
		}
		numbers = append(numbers, number)
	}
	return numbers, true
}

func compareWays(a, b Way) int {
	return cmp.Compare(a.ID, b.ID)
}

func compareRelations(a, b Relation) int {
	return cmp.Compare(a.ID, b.ID)
}

func compareTurns(a, b TurnCost) int {
	return cmp.Or(cmp.Compare(a.From, b.From), cmp.Compare(a.To, b.To))
}

func ValidNet(n Net) bool {
	return withinCounts(n) && inRange(n.UTurn) && validNodes(n) && validWays(n) && validRelations(n) && validTurns(n)
}

func withinCounts(n Net) bool {
	return len(n.Nodes) <= MaxNodes && len(n.Ways) <= MaxWays && countEdges(n) <= MaxEdges &&
		len(n.Relations) <= MaxRelations && len(n.Turns) <= MaxTurns
}

func countEdges(n Net) int {
	edges := 0
	for _, way := range n.Ways {
		edges += len(way.Weights)
		if way.Both {
			edges += len(way.Weights)
		}
	}
	return edges
}

func inRange(number int64) bool {
	return number >= 0 && number <= MaxNumber
}

func validNodes(n Net) bool {
	return ascending(n.Nodes, cmp.Compare[int64]) && !slices.ContainsFunc(n.Nodes, outOfRange)
}

func outOfRange(number int64) bool {
	return !inRange(number)
}

// ascending is true if no entry is equal to or below the one before it.
func ascending[T any](list []T, compare func(a, b T) int) bool {
	for i := 1; i < len(list); i++ {
		if compare(list[i-1], list[i]) >= 0 {
			return false
		}
	}
	return true
}

// hasNode and hasWay halve their lists, so they are asked only of lists that
// are known to ascend.
func hasNode(n Net, id int64) bool {
	_, found := slices.BinarySearch(n.Nodes, id)
	return found
}

func hasWay(n Net, id int64) bool {
	_, found := slices.BinarySearchFunc(n.Ways, Way{ID: id}, compareWays)
	return found
}

func validWays(n Net) bool {
	for _, way := range n.Ways {
		if !validWay(n, way) {
			return false
		}
	}
	return ascending(n.Ways, compareWays)
}

func validWay(n Net, way Way) bool {
	segments := len(way.Weights)
	if !inRange(way.ID) || segments < 1 || segments > MaxSegs || len(way.Nodes) != segments+1 {
		return false
	}
	for _, id := range way.Nodes {
		if !hasNode(n, id) {
			return false
		}
	}
	return !slices.ContainsFunc(way.Weights, outOfRange)
}

func validRelations(n Net) bool {
	for _, relation := range n.Relations {
		if !validRelation(n, relation) {
			return false
		}
	}
	return ascending(n.Relations, compareRelations)
}

func validRelation(n Net, relation Relation) bool {
	if !inRange(relation.ID) || !hasWay(n, relation.From) || !hasWay(n, relation.To) {
		return false
	}
	if relation.ViaNode {
		return hasNode(n, relation.Node) && len(relation.Ways) == 0
	}
	if relation.Node != 0 || len(relation.Ways) < 1 || len(relation.Ways) > MaxVia {
		return false
	}
	for _, id := range relation.Ways {
		if !hasWay(n, id) {
			return false
		}
	}
	return true
}

func validTurns(n Net) bool {
	for _, turn := range n.Turns {
		if !hasWay(n, turn.From) || !hasWay(n, turn.To) || !inRange(turn.Cost) {
			return false
		}
	}
	return ascending(n.Turns, compareTurns)
}

func EncodeNet(n Net) []byte {
	if !ValidNet(n) {
		return []byte{}
	}
	out := []byte(netHeader + "\n")
	out = appendLine(out, "uturn", n.UTurn)
	for _, id := range n.Nodes {
		out = appendLine(out, "node", id)
	}
	for _, way := range n.Ways {
		out = appendWay(out, way)
	}
	for _, relation := range n.Relations {
		out = appendRelation(out, relation)
	}
	for _, turn := range n.Turns {
		out = appendLine(out, "turn", turn.From, turn.To, turn.Cost)
	}
	return out
}

func appendLine(out []byte, word string, numbers ...int64) []byte {
	out = append(out, word...)
	out = appendNumbers(out, numbers...)
	return append(out, '\n')
}

// appendNumbers puts a space before each number, so that a line is begun by
// its word and needs no separator of its own.
func appendNumbers(out []byte, numbers ...int64) []byte {
	for _, number := range numbers {
		out = append(out, ' ')
		out = strconv.AppendInt(out, number, 10)
	}
	return out
}

func appendWay(out []byte, way Way) []byte {
	direction := " f"
	if way.Both {
		direction = " b"
	}
	out = append(out, "way"...)
	out = appendNumbers(out, way.ID)
	out = append(out, direction...)
	out = appendNumbers(out, way.Nodes[0])
	for i, weight := range way.Weights {
		out = appendNumbers(out, weight, way.Nodes[i+1])
	}
	return append(out, '\n')
}

func appendRelation(out []byte, relation Relation) []byte {
	word := "no"
	if relation.Only {
		word = "only"
	}
	out = append(out, word...)
	out = appendNumbers(out, relation.ID, relation.From)
	if relation.ViaNode {
		out = append(out, " at"...)
		out = appendNumbers(out, relation.Node)
	} else {
		out = append(out, " by"...)
		out = appendNumbers(out, relation.Ways...)
	}
	out = appendNumbers(out, relation.To)
	return append(out, '\n')
}

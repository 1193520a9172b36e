package tests

import (
	"math/rand/v2"
	"regexp"
	"slices"
	"strconv"
	"strings"
	"testing"

	"loop.example/leadline/impl"
)

// counterText is the text of counterModel.
const counterText = "0 state 3 x\n1 const 3 0\n2 const 3 5\n3 input 1 go\n4 state 1:2 mem\n5 const 2 1\n" +
	"6 zext 3 2\n7 add 0 6\n8 eq 0 2\n9 put 4 3 5\n10 less 0 2\n" +
	"init 0 1\ninit 4 5\nnext 4 9\nnext 0 7\nbad 8\nhold 10\nhold 3\n"

// linePatterns are the lines that the document tells, as patterns; those of nodes have the place as what is caught.
func linePatterns() []*regexp.Regexp {
	number := `(?:0|[1-9][0-9]{0,5})`
	sort := `(?:[1-9][0-9]{0,5}:)?` + number
	lines := []string{
		`(?:init|next) ` + number + ` ` + number,
		`(?:bad|hold) ` + number,
		`(` + number + `) (?:input|state) ` + sort + ` [^ ]*`,
		`(` + number + `) const ` + sort + ` ` + number,
		`(` + number + `) slice ` + number + ` ` + number + ` ` + number,
		`(` + number + `) (?:zext|sext) ` + number + ` ` + number,
	}
	for _, row := range kindRows() {
		own := row.kind >= impl.OpSlice && row.kind <= impl.OpSext
		if row.parts > 0 && !own {
			lines = append(lines, `(`+number+`) `+row.word+strings.Repeat(` `+number, row.parts))
		}
	}
	var l []*regexp.Regexp
	for _, line := range lines {
		l = append(l, regexp.MustCompile(`^(?s:`+line+`)$`))
	}
	return l
}

// wantFault is what the document tells of a text, but for what ModelCode tells of its model: that is asked of the program.
func wantFault(text string, patterns []*regexp.Regexp) impl.Fault {
	lines := strings.Split(strings.TrimSuffix(text, "\n"), "\n")
	if text == "" {
		lines = nil
	}
	if len(text) > impl.TextMax || len(lines) > impl.TextMaxLines {
		return impl.Fault{Code: impl.TextTooLong}
	}
	var m impl.Model
	for i, line := range lines {
		if line == "" || strings.HasPrefix(line, "#") {
			continue
		}
		place, ok := linePlace(line, patterns)
		if !ok || place >= 0 && place != len(m.Nodes) {
			return impl.Fault{Line: i + 1, Code: impl.TextBadLine}
		}
		if !addLine(&m, place >= 0, strings.Split(line, " ")) {
			return impl.Fault{Line: i + 1, Code: impl.ModelBadNode}
		}
	}
	return impl.Fault{Code: impl.ModelCode(m)}
}

// linePlace is the place that a line tells (-1 if it is no node), and whether it is one of the lines.
func linePlace(line string, patterns []*regexp.Regexp) (int, bool) {
	for _, p := range patterns {
		if caught := p.FindStringSubmatch(line); len(caught) == 2 {
			place, _ := strconv.Atoi(caught[1])
			return place, true
		} else if caught != nil {
			return -1, true
		}
	}
	return 0, false
}

// addLine takes a line that fits a pattern; it says whether a node may stand there.
func addLine(m *impl.Model, isNode bool, line []string) bool {
	var numbers []int
	for _, word := range line {
		n, _ := strconv.Atoi(word)
		numbers = append(numbers, n)
	}
	if !isNode {
		addEntry(m, line[0], numbers)
		return true
	}
	n := lineNode(line, numbers)
	s, ok := impl.NodeSort(m.Nodes, n)
	n.Sort = s
	m.Nodes = append(m.Nodes, n)
	return ok && len(m.Nodes) <= impl.NodeMax
}

func addEntry(m *impl.Model, word string, numbers []int) {
	switch word {
	case "init":
		m.Inits = append(m.Inits, impl.Bind{State: numbers[1], Node: numbers[2]})
	case "next":
		m.Nexts = append(m.Nexts, impl.Bind{State: numbers[1], Node: numbers[2]})
	case "bad":
		m.Bads = append(m.Bads, numbers[1])
	case "hold":
		m.Holds = append(m.Holds, numbers[1])
	}
}

func lineNode(line []string, numbers []int) impl.Node {
	var n impl.Node
	for _, row := range kindRows() {
		if row.word == line[1] {
			n.Kind = row.kind
		}
	}
	switch n.Kind {
	case impl.OpInput, impl.OpState:
		n.Sort, n.Name = lineSort(line[2]), line[3]
	case impl.OpConst:
		n.Sort, n.N = lineSort(line[2]), numbers[3]
	case impl.OpSlice:
		n.A, n.N, n.M = numbers[2], numbers[3], numbers[4]
	case impl.OpZext, impl.OpSext:
		n.A, n.N = numbers[2], numbers[3]
	default:
		for i, field := range []*int{&n.A, &n.B, &n.C}[:len(line)-2] {
			*field = numbers[i+2]
		}
	}
	return n
}

func lineSort(word string) impl.Sort {
	pieces := strings.Split(word, ":")
	width, _ := strconv.Atoi(pieces[len(pieces)-1])
	if len(pieces) == 1 {
		return words(width)
	}
	index, _ := strconv.Atoi(pieces[0])
	return arrays(index, width)
}

// read is the model of a text that must have no fault.
func read(t *testing.T, text string) impl.Model {
	t.Helper()
	m, f := impl.ModelRead(text)
	if f != (impl.Fault{}) {
		t.Fatalf("%q has the fault %v", text, f)
	}
	return m
}

// wantTextFault holds ModelRead to a fault, and to nothing beside it.
func wantTextFault(t *testing.T, text string, line int, code int) {
	t.Helper()
	m, f := impl.ModelRead(text)
	if f.Line != line || f.Code != code || !sameModel(m, impl.Model{}) {
		t.Fatalf("%.200q: fault %v, want line %d code %d; model %v", text, f, line, code, m)
	}
}

// wantLineFault asks for a fault of a line by itself, and behind others.
func wantLineFault(t *testing.T, line string, code int) {
	t.Helper()
	wantTextFault(t, line, 1, code)
	wantTextFault(t, line+"\n", 1, code)
	wantTextFault(t, "\n# a line that counts for nothing\n"+line+"\nworse\n", 3, code)
}

// spoilt is a text with something of it changed, by a fixed rule.
func spoilt(r *rand.Rand, text string) string {
	tokens := []string{" ", "\n", "0", "1", "9", "-1", "00", "16", "17", "99999", "1000000", "2:3", "0:1", ":", "#", "x", "X", "state", "input", "const", "put", "read", "if", "not", "slice", "zext", "init", "bad", "\t", "\r", "\x00", "\xff"}
	lines := strings.Split(text, "\n")
	at := r.IntN(len(lines))
	pieces := strings.Split(lines[at], " ")
	word := r.IntN(len(pieces))
	switch r.IntN(10) {
	case 0:
		pieces[word] = tokens[r.IntN(len(tokens))]
	case 1:
		pieces[word] += tokens[r.IntN(len(tokens))]
	case 2:
		pieces = slices.Insert(pieces, word, tokens[r.IntN(len(tokens))])
	case 3:
		pieces = slices.Delete(pieces, word, word+1)
	case 4:
		pieces = append(pieces, "")
	case 5:
		lines = slices.Insert(lines, at, lines[r.IntN(len(lines))])
	case 6:
		pieces[word] = strconv.Itoa(r.IntN(70))
	case 7:
		lines = slices.Insert(lines, at, tokens[r.IntN(len(tokens))])
	case 8:
		pieces[word] = strings.TrimSuffix(pieces[word], "0")
	case 9:
		if len(pieces) > 2 {
			pieces[2] = strconv.Itoa(1 + r.IntN(10))
		}
	}
	if at < len(lines) && r.IntN(10) > 0 {
		lines[at] = strings.Join(pieces, " ")
	}
	return strings.Join(lines, "\n")
}

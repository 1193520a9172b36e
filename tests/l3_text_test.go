package tests

import (
	"math/rand/v2"
	"slices"
	"strconv"
	"strings"
	"testing"

	"loop.example/leadline/impl"
)

// P21: a model is read back from its text.

func TestP21ModelsAreReadBack(t *testing.T) {
	for _, m := range someModels() {
		text := impl.ModelText(m)
		if text == "" && len(m.Nodes) > 0 || len(text) > impl.TextMax {
			t.Fatal("text", text, "of", m)
		}
		if back := read(t, text); !sameModel(back, m) {
			t.Fatalf("%q is read as %v, not as %v", text, back, m)
		}
	}
}

func TestP21TextsAsTold(t *testing.T) {
	if text := impl.ModelText(counterModel()); text != counterText {
		t.Fatalf("text %q", text)
	}
	if m := read(t, counterText); !sameModel(m, counterModel()) {
		t.Fatal("model", m)
	}
}

// The document's own example, ahead of its 'then'.
func TestP21TheExample(t *testing.T) {
	lines := []string{"0 state 3 x", "1 const 3 0", "2 const 3 1", "3 const 3 5", "4 input 1 go", "5 add 0 2", "6 if 4 5 0", "7 eq 0 3", "8 const 3 2", "9 less 0 8", "init 0 1", "next 0 6", "bad 7", "hold 9"}
	text := strings.Join(lines, "\n") + "\n"
	m := read(t, "# a counter that stops at a wall\n"+text)
	if impl.ModelText(m) != text {
		t.Fatalf("text %q", impl.ModelText(m))
	}
	if len(m.Nodes) != 10 || m.Nodes[6] != (impl.Node{Kind: impl.OpIf, A: 4, B: 5, C: 0, Sort: words(3)}) {
		t.Fatal("nodes", m.Nodes)
	}
}

func TestP21LinesOfAllKinds(t *testing.T) {
	l := rightNodes()
	text := impl.ModelText(impl.Model{Nodes: l})
	lines := strings.Split(strings.TrimSuffix(text, "\n"), "\n")
	wantInt(t, len(lines), len(l), "lines")
	for i, n := range l {
		row := rowOf(n.Kind)
		want := []string{strconv.Itoa(i), row.word}
		for _, part := range []int{n.A, n.B, n.C}[:row.parts] {
			want = append(want, strconv.Itoa(part))
		}
		if line, ok := strings.CutPrefix(lines[i], strings.Join(want, " ")); !ok || row.parts > 0 && line != ownText(n) {
			t.Fatal("line", lines[i], "of", n)
		}
	}
	if !slices.Equal(lines[:6], []string{"0 state 3 x", "1 input 1 go", "2 state 1:2 mem", "3 const 3 7", "4 const 1 1", "5 const 2 2"}) {
		t.Fatal("lines", lines[:6])
	}
	if !sameModel(read(t, text), impl.Model{Nodes: l}) {
		t.Fatal("not read back", text)
	}
}

// ownText is what stands behind the parts of a node.
func ownText(n impl.Node) string {
	switch n.Kind {
	case impl.OpSlice:
		return " " + strconv.Itoa(n.N) + " " + strconv.Itoa(n.M)
	case impl.OpZext, impl.OpSext:
		return " " + strconv.Itoa(n.N)
	}
	return ""
}

func TestP21EmptyTexts(t *testing.T) {
	for _, text := range []string{"", "\n", "\n\n\n", "#", "#\n", "# state\n\n#0 state 3 x", "##"} {
		if m := read(t, text); !sameModel(m, impl.Model{}) {
			t.Fatalf("%q is read as %v", text, m)
		}
	}
	if text := impl.ModelText(impl.Model{}); text != "" {
		t.Fatalf("text of nothing %q", text)
	}
}

func TestP21LineFeeds(t *testing.T) {
	want := counterModel()
	for _, text := range []string{
		strings.TrimSuffix(counterText, "\n"),
		counterText + "\n",
		"\n\n" + counterText + "\n\n#",
		strings.ReplaceAll(counterText, "\n", "\n\n# between \xff\x00\n"),
	} {
		if m := read(t, text); !sameModel(m, want) {
			t.Fatalf("%q is read as %v", text, m)
		}
	}
}

// Binds, bads and holds may stand anywhere, ahead of their nodes, too; they are written behind.
func TestP21LinesInAnyOrder(t *testing.T) {
	m := read(t, "bad 2\nnext 0 1\nhold 2\n0 state 1 a\ninit 0 1\n1 const 1 1\nbad 1\n2 any 0\n")
	if text := impl.ModelText(m); text != "0 state 1 a\n1 const 1 1\n2 any 0\ninit 0 1\nnext 0 1\nbad 2\nbad 1\nhold 2\n" {
		t.Fatalf("text %q", text)
	}
}

func TestP21BytesOfATextAreMet(t *testing.T) {
	for more, code := range []int{0, impl.TextTooLong} {
		pad := strings.Repeat("x", impl.TextMax-len(counterText)-1+more)
		for _, text := range []string{counterText + "#" + pad, "#" + pad[1:] + "\n" + counterText} {
			wantInt(t, len(text), impl.TextMax+more, "bytes")
			if code != 0 {
				wantTextFault(t, text, 0, code)
			} else if !sameModel(read(t, text), counterModel()) {
				t.Fatal("not read")
			}
		}
	}
	wantTextFault(t, strings.Repeat("x", impl.TextMax), 1, impl.TextBadLine)
	wantTextFault(t, strings.Repeat("x", impl.TextMax+1), 0, impl.TextTooLong)
	wantTextFault(t, strings.Repeat("0 state 3 x\n", 100000), 0, impl.TextTooLong)
}

// Lines that count for nothing are lines, too.
func TestP21LinesOfATextAreMet(t *testing.T) {
	used := strings.Count(counterText, "\n")
	for _, filler := range []string{"\n", "#\n", "# more\n"} {
		text := counterText + strings.Repeat(filler, impl.TextMaxLines-used)
		if !sameModel(read(t, text), counterModel()) || !sameModel(read(t, text[:len(text)-1]), counterModel()) {
			t.Fatal("not read")
		}
		wantTextFault(t, text+"\n", 0, impl.TextTooLong)
		wantTextFault(t, text+"#", 0, impl.TextTooLong)
		wantTextFault(t, text+"worse", 0, impl.TextTooLong)
	}
	empty := strings.Repeat("\n", impl.TextMaxLines)
	read(t, empty)
	wantTextFault(t, empty+"\n", 0, impl.TextTooLong)
	wantTextFault(t, "worse"+empty+"\n", 0, impl.TextTooLong)
	wantTextFault(t, empty[1:]+"worse", impl.TextMaxLines, impl.TextBadLine)
}

func TestP21NodesOfATextAreMet(t *testing.T) {
	text := "0 const 1 1\n"
	for i := 1; i < impl.NodeMax; i++ {
		text += strconv.Itoa(i) + " not " + strconv.Itoa(i-1) + "\n"
	}
	m := read(t, text+"bad 59\n")
	if len(m.Nodes) != impl.NodeMax || impl.ModelText(m) != text+"bad 59\n" {
		t.Fatal("nodes", len(m.Nodes))
	}
	wantTextFault(t, text+"60 not 59\n", 61, impl.ModelBadNode)
	wantTextFault(t, text+"bad 99\n60 const 1 1\n", 62, impl.ModelBadNode)
	wantTextFault(t, text+"60 worse 1 1\n", 61, impl.TextBadLine)
	wantTextFault(t, text+"61 const 1 1\n", 61, impl.TextBadLine)
}

func TestP21EntriesOfATextAreMet(t *testing.T) {
	nodes := "0 state 1 x\n1 const 1 1\n"
	read(t, nodes+strings.Repeat("bad 0\n", impl.PropMax)+strings.Repeat("hold 0\n", impl.PropMax))
	wantTextFault(t, nodes+strings.Repeat("bad 0\n", impl.PropMax+1), 0, impl.ModelTooMany)
	wantTextFault(t, nodes+strings.Repeat("hold 0\n", impl.PropMax+1), 0, impl.ModelTooMany)
	for _, word := range []string{"init", "next"} {
		binds := ""
		for i := range impl.NodeMax {
			binds += word + " " + strconv.Itoa(i) + " 1\n"
		}
		wantTextFault(t, nodes+binds, 0, impl.ModelBadBind)
		wantTextFault(t, nodes+binds+word+" 99 1\n", 0, impl.ModelTooMany)
		wantTextFault(t, nodes+binds+"worse", 63, impl.TextBadLine)
	}
}

func TestP21BitsAndNamesAreMet(t *testing.T) {
	read(t, "0 state 8 abcdefgh\n1 input 5 a1234567\n")
	read(t, "0 state 2:2 a\n1 input 2:1 b\n2 input 1 c\n")
	wantTextFault(t, "0 state 9 a\n", 0, impl.ModelTooBig)
	wantTextFault(t, "0 state 2:2 a\n1 state 1 b\n", 0, impl.ModelTooBig)
	wantTextFault(t, "0 input 6 a\n", 0, impl.ModelTooBig)
	wantTextFault(t, "0 state 1 abcdefghi\n", 1, impl.ModelBadNode)
	wantTextFault(t, "0 input 1 a12345678\n", 1, impl.ModelBadNode)
}

// Each code that ModelCode has of whole models is told without a line, the first of them.
func TestP21CodesOfTheWhole(t *testing.T) {
	for _, c := range []struct {
		more string
		code int
	}{
		{"11 state 2 big\n", impl.ModelTooBig},
		{"11 state 2 big\nbad 0\n", impl.ModelBadProp},
		{"11 state 2 big\nbad 0\ninit 3 1\n", impl.ModelBadBind},
		{"11 state 2 x\nbad 0\ninit 3 1\n", impl.ModelTwice},
		{"11 state 2 big\nbad 99\nnext 0 7\n", impl.ModelTwice},
		{"11 state 2 x\nbad 0\nbad 0\nbad 0\nbad 0\ninit 3 1\n", impl.ModelTooMany},
		{"init 11 999999\n", impl.ModelBadBind},
		{"bad 999999\n", impl.ModelBadProp},
	} {
		wantTextFault(t, counterText+c.more, 0, c.code)
	}
}

// What is read is a model, whose text is read as the same again; what is not has the fault that the document tells.
func TestP21SpoiltTexts(t *testing.T) {
	r := rand.New(rand.NewPCG(21, 3))
	patterns := linePatterns()
	seen := map[int]int{}
	models := someModels()
	for i := range 15000 {
		text := impl.ModelText(models[1+i%(len(models)-1)])
		for range 1 + r.IntN(2) {
			text = spoilt(r, text)
		}
		m, f := impl.ModelRead(text)
		if want := wantFault(text, patterns); f != want {
			t.Fatalf("%q: fault %v, want %v", text, f, want)
		}
		seen[f.Code]++
		checkRead(t, text, m, f)
	}
	for _, code := range []int{0, impl.ModelTooMany, impl.ModelBadNode, impl.ModelTwice, impl.ModelBadBind, impl.ModelBadProp, impl.ModelTooBig, impl.TextBadLine} {
		if seen[code] < 10 {
			t.Fatal("the texts are too plain", seen)
		}
	}
}

func checkRead(t *testing.T, text string, m impl.Model, f impl.Fault) {
	t.Helper()
	if f.Code != 0 {
		if !sameModel(m, impl.Model{}) {
			t.Fatalf("%q: a model beside the fault %v", text, f)
		}
		return
	}
	if impl.ModelCode(m) != 0 || f.Line != 0 {
		t.Fatalf("%q is read as what is no model", text)
	}
	written := impl.ModelText(m)
	if !sameModel(read(t, written), m) || impl.ModelText(read(t, written)) != written {
		t.Fatalf("%q is not written and read as the same", text)
	}
}

// Lists of an answer share no memory, and nothing is kept.
func TestP21MemoryIsKeptApart(t *testing.T) {
	m := read(t, counterText)
	for _, l := range [][]int{m.Bads[:cap(m.Bads)], m.Holds[:cap(m.Holds)]} {
		for i := range l {
			l[i] = -5
		}
	}
	for _, l := range [][]impl.Bind{m.Inits[:cap(m.Inits)], m.Nexts[:cap(m.Nexts)]} {
		for i := range l {
			l[i] = impl.Bind{State: -5, Node: -5}
		}
	}
	if !slices.Equal(m.Nodes, counterModel().Nodes) {
		t.Fatal("lists of one answer share memory")
	}
	if !sameModel(read(t, counterText), counterModel()) {
		t.Fatal("an answer was kept")
	}
	spare := counterModel()
	spare.Bads = append(spare.Bads, 3)[:1]
	impl.ModelText(spare)
	if !sameModel(spare, counterModel()) || spare.Bads[:2][1] != 3 {
		t.Fatal("an argument was written into")
	}
}

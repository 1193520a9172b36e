package tests

import (
	"math/rand/v2"
	"slices"
	"testing"

	"loop.example/leadline/impl"
)

// P4: reckoning ahead changes no answer. P5: it changes no meaning. P6: what is folded is folded, and what was cut is cut.
// P49: a trace is what it is when the model is folded. P57: what is there twice is shared.

// plainTexts are ordinary models: with and without states, inputs, arrays, inits, nexts, bads and holds.
func plainTexts() []string {
	return []string{
		"",
		"0 const 1 1\nbad 0\n",
		"0 const 1 0\nbad 0\nhold 0\n",
		"0 input 2 i\n1 any 0\n2 not 1\n3 not 2\nbad 3\n",
		"0 state 2 x\n1 all 0\nbad 1\n",
		"0 state 2 x\n1 const 2 0\n2 const 2 1\n3 add 2 0\n4 all 0\ninit 0 1\nnext 0 3\nbad 4\n",
		"0 state 3 x\n1 const 3 0\n2 const 3 1\n3 const 3 5\n4 input 1 go\n5 add 0 2\n6 if 4 5 0\n7 eq 0 3\n8 const 3 2\n9 less 0 8\ninit 0 1\nnext 0 6\nbad 7\nhold 9\n",
		"0 state 3 x\n1 const 3 0\n2 const 3 1\n3 const 3 5\n4 input 1 go\n5 add 0 2\n6 if 4 5 0\n7 eq 0 3\n8 const 3 2\n9 less 0 8\ninit 0 1\nnext 0 6\nbad 9\nbad 7\nhold 4\n",
		"0 state 1:2 m\n1 input 1 i\n2 const 2 0\n3 read 0 1\n4 const 2 1\n5 add 4 3\n6 put 0 1 5\n7 const 1 0\n8 const 1 1\n9 read 0 7\n10 read 0 8\n11 eq 9 10\n12 all 9\n13 and 11 12\ninit 0 2\nnext 0 6\nbad 13\n",
		"0 state 2:1 m\n1 state 2 at\n2 input 1 v\n3 put 0 1 2\n4 read 3 1\n5 xor 4 2\n6 not 5\n7 const 2 1\n8 add 1 7\n9 const 1 0\n10 read 0 1\ninit 0 9\nnext 0 3\nnext 1 8\nbad 5\nbad 10\nhold 6\n",
		"0 state 2 x\n1 state 2 y\n2 const 2 2\n3 const 2 1\n4 add 0 3\n5 add 3 0\n6 sub 4 5\n7 or 1 6\n8 eq 7 2\n9 input 1 go\n10 if 9 4 5\n11 mul 10 3\ninit 0 3\ninit 1 2\nnext 0 11\nnext 1 0\nbad 8\n",
	}
}

// foldModels are ordinary models, and many that are made up.
func foldModels(t *testing.T, count int) []impl.Model {
	t.Helper()
	l := []impl.Model{counterModel(), ringModel(t, "bad 9\nbad 10\nhold 1\nhold 9\n"), freeModel(), {Nodes: rightNodes()}}
	for _, text := range plainTexts() {
		l = append(l, read(t, text))
	}
	return append(append(l, someModels()[:count]...), foldableModels(count)...)
}

// checkSameMoment holds a folded model to the model at a state and an input: all nodes, what holds, what is bad, what begins, and what follows.
func checkSameMoment(t *testing.T, m impl.Model, l laid, s []impl.Value, in []impl.Value) {
	t.Helper()
	folded := impl.ModelFold(m)
	all, got := impl.EvalAll(m, s, in), impl.EvalAll(folded, s, in)
	if len(all) != len(m.Nodes) || len(got) != len(folded.Nodes) {
		t.Fatal("no values", all, got, "at", s, in, m)
	}
	for i, v := range all {
		if !sameValue(got[l.at[i]], v) {
			t.Fatal("value", got[l.at[i]], "want", v, "at", s, in, "of node", i, m)
		}
	}
	for i := range m.Bads {
		wantInt(t, got[folded.Bads[i]].Cells[0], all[m.Bads[i]].Cells[0], "bad", i, m)
	}
	for i := range m.Holds {
		wantInt(t, got[folded.Holds[i]].Cells[0], all[m.Holds[i]].Cells[0], "hold", i, m)
	}
	wantInt(t, impl.EvalBad(folded, s, in), impl.EvalBad(m, s, in), "bad of", m)
	if impl.EvalHolds(folded, s, in) != impl.EvalHolds(m, s, in) || impl.InitFits(folded, s) != impl.InitFits(m, s) {
		t.Fatal("holds, or begins, otherwise at", s, in, m)
	}
	for i, b := range m.Nexts {
		if !sameValue(got[folded.Nexts[i].Node], all[b.Node]) {
			t.Fatal("next", i, "of", m, "at", s, in)
		}
	}
	after := bound(m, m.Nexts, all, greatest)
	if !impl.StepFits(m, s, in, after) || !impl.StepFits(folded, s, in, after) {
		t.Fatal("what follows does not follow", after, s, in, m)
	}
	eachOtherCell(m, after, func(at int, other []impl.Value) {
		if impl.StepFits(m, s, in, other) != impl.StepFits(folded, s, in, other) {
			t.Fatal("follows otherwise", other, s, in, m)
		}
	})
}

func TestP5EachStateAndInput(t *testing.T) {
	texts := plainTexts()
	for _, text := range texts {
		m := read(t, text)
		l := checkFold(t, m)
		eachMoment(m, func(s []impl.Value, in []impl.Value) { checkSameMoment(t, m, l, s, in) })
	}
	for _, m := range foldableModels(150) {
		l := checkFold(t, m)
		eachMoment(m, func(s []impl.Value, in []impl.Value) { checkSameMoment(t, m, l, s, in) })
	}
}

func TestP5SomeStatesAndInputs(t *testing.T) {
	r := rand.New(rand.NewPCG(5, 9))
	for _, m := range foldModels(t, 300) {
		l := checkFold(t, m)
		someMoments(m, r, func(s []impl.Value, in []impl.Value) { checkSameMoment(t, m, l, s, in) })
	}
}

// The states and inputs that there are stay, with their names and their order, whether anything is made of them or not.
func TestP5StatesAndInputsStay(t *testing.T) {
	for _, m := range foldModels(t, 400) {
		folded := impl.ModelFold(m)
		for _, kind := range list(impl.OpState, impl.OpInput) {
			was, is := placesOf(m, kind), placesOf(folded, kind)
			wantInt(t, len(is), len(was), "states or inputs of", m)
			for i := range was {
				if folded.Nodes[is[i]] != m.Nodes[was[i]] {
					t.Fatal("is", folded.Nodes[is[i]], "was", m.Nodes[was[i]], m)
				}
			}
		}
		a, b := impl.ModelBits(m)
		c, d := impl.ModelBits(folded)
		wantInt(t, c, a, "bits of states", m)
		wantInt(t, d, b, "bits of inputs", m)
	}
}

// Two states of one sort are two, and so are two inputs, though nothing but their names tells them apart.
func TestP5StatesThatAreLikeEachOther(t *testing.T) {
	checkFoldText(t, "0 state 2 x\n1 state 2 y\n2 input 1 i\n3 input 1 j\n4 eq 0 1\n5 eq 2 3\n6 sub 1 0\n7 sub 0 1\n8 xor 3 2\nnext 0 1\nnext 1 0\nbad 4\nbad 5\n",
		"0 state 2 x\n1 state 2 y\n2 input 1 i\n3 input 1 j\n4 eq 0 1\n5 eq 2 3\n6 sub 1 0\n7 sub 0 1\n8 xor 2 3\nnext 0 1\nnext 1 0\nbad 4\nbad 5\n")
	checkFoldText(t, "0 state 1:2 a\n1 input 1 i\n2 state 1:2 b\n3 input 1:1 c\n4 input 1 j\n5 read 0 1\n6 read 2 1\n7 read 3 1\n8 read 3 4\n9 eq 5 6\n10 eq 0 2\n",
		"0 state 1:2 a\n1 input 1 i\n2 state 1:2 b\n3 input 1:1 c\n4 input 1 j\n5 read 0 1\n6 read 2 1\n7 read 3 1\n8 read 3 4\n9 eq 5 6\n10 eq 0 2\n")
}

// Inits, nexts, bads and holds stay as many and in their order, where they come to stand at one place, too.
func TestP5EntriesThatComeTogether(t *testing.T) {
	checkFoldText(t, "0 state 2 x\n1 state 2 y\n2 const 2 1\n3 const 2 1\n4 const 2 0\n5 or 4 3\n6 add 0 4\n7 not 0\n8 not 7\ninit 1 5\ninit 0 3\nnext 1 8\nnext 0 6\n",
		"0 state 2 x\n1 state 2 y\n2 const 2 1\n3 const 2 0\n4 not 0\ninit 1 2\ninit 0 2\nnext 1 0\nnext 0 0\n")
	checkFoldText(t, "0 state 1 x\n1 not 0\n2 not 1\n3 zext 2 0\n4 slice 0 0 0\nbad 3\nbad 0\nbad 1\nbad 4\nhold 2\nhold 4\nhold 0\nhold 2\n",
		"0 state 1 x\n1 not 0\nbad 0\nbad 0\nbad 1\nbad 0\nhold 0\nhold 0\nhold 0\nhold 0\n")
	checkFoldText(t, "0 state 3 x\n1 eq 0 0\n2 most 0 0\n3 less 0 0\n4 sless 0 0\nbad 2\nbad 3\nbad 4\nhold 1\nhold 2\n",
		"0 state 3 x\n1 const 1 1\n2 const 1 0\nbad 1\nbad 2\nbad 2\nhold 1\nhold 1\n")
	// An init by a word that stands for each cell, which is known.
	checkFoldText(t, "0 const 2 1\n1 state 1:2 m\n2 add 0 0\n3 not 2\ninit 1 3\nnext 1 1\n", "0 const 2 1\n1 state 1:2 m\n2 const 2 2\ninit 1 0\nnext 1 1\n")
}

// larger says whether a model has more nodes, or more entries in one of its lists.
func larger(a impl.Model, b impl.Model) bool {
	return len(a.Nodes) > len(b.Nodes) || len(a.Inits) > len(b.Inits) || len(a.Nexts) > len(b.Nexts) || len(a.Bads) > len(b.Bads) || len(a.Holds) > len(b.Holds)
}

// Folding twice is folding once, cutting twice is cutting once, in either order, and neither makes a model larger.
func TestP6FoldedAndCutTwice(t *testing.T) {
	smaller := 0
	for _, m := range foldModels(t, 400) {
		folded, cone := impl.ModelFold(m), impl.ModelCone(m)
		for _, once := range []impl.Model{folded, cone} {
			if larger(once, m) {
				t.Fatal("larger", once, "than", m)
			}
		}
		if !sameModel(impl.ModelFold(folded), folded) || !sameModel(impl.ModelCone(cone), cone) {
			t.Fatal("twice is not once", impl.ModelFold(folded), folded, impl.ModelCone(cone), cone)
		}
		first, then := impl.ModelCone(folded), impl.ModelFold(cone)
		if !sameModel(first, wantCone(wantFold(t, m).Model)) || !sameModel(then, wantFold(t, wantCone(m)).Model) {
			t.Fatal("both", first, then, "of", m)
		}
		for _, both := range []impl.Model{first, then} {
			if !sameModel(impl.ModelFold(impl.ModelFold(both)), impl.ModelFold(both)) || !sameModel(impl.ModelCone(impl.ModelCone(both)), impl.ModelCone(both)) {
				t.Fatal("both, and then twice", both)
			}
			if larger(both, m) || larger(impl.ModelFold(both), both) || larger(impl.ModelCone(both), both) {
				t.Fatal("both are larger", both, "than", m)
			}
		}
		// What was folded ahead of being cut has no part that could be folded.
		if !sameModel(impl.ModelFold(first), first) {
			t.Fatal("what was folded and cut is folded again", first)
		}
		smaller += flag(len(folded.Nodes) < len(m.Nodes) && len(first.Nodes) < len(folded.Nodes) && len(first.Nodes) > 0)
	}
	if smaller < 200 {
		t.Fatal("too few models become smaller", smaller)
	}
}

// Models of as many nodes as there may be: all of them stay, or they come to be one.
func TestP6AsManyNodesAsThereMayBe(t *testing.T) {
	stay := impl.Model{Nodes: []impl.Node{{Kind: impl.OpState, Sort: words(8), Name: "x"}}}
	same := copyModel(stay)
	known := impl.Model{Nodes: []impl.Node{constNode(8, 3)}}
	for len(stay.Nodes) < impl.NodeMax {
		last := len(stay.Nodes) - 1
		stay.Nodes = append(stay.Nodes, impl.Node{Kind: impl.OpSub, A: 0, B: last, Sort: words(8)})
		same.Nodes = append(same.Nodes, impl.Node{Kind: impl.OpAnd, A: last, B: 0, Sort: words(8)})
		known.Nodes = append(known.Nodes, impl.Node{Kind: impl.OpAdd, A: last, B: 0, Sort: words(8)})
	}
	// What is taken from itself is nothing, and with nothing taken from it what it was.
	wantInt(t, len(checkFold(t, stay).Nodes), 2, "what is taken")
	stay.Nodes[1].Kind = impl.OpMul
	wantInt(t, len(checkFold(t, stay).Nodes), impl.NodeMax, "what is taken, from a product on")
	wantInt(t, len(checkFold(t, same).Nodes), 1, "what is both")
	wantInt(t, len(checkFold(t, known).Nodes), impl.NodeMax, "sums of constants")
	for i, n := range impl.ModelFold(known).Nodes {
		if n != constNode(8, 3*(i+1)) {
			t.Fatal("sum", i, n)
		}
	}
}

// leastOf is the least witness of a model, and its bad; no moments and -1, if there is none.
func leastOf(t *testing.T, m impl.Model) (impl.Trace, int) {
	t.Helper()
	tr, ok := searchOf(t, m).least()
	if !ok {
		return impl.Trace{}, -1
	}
	wantInt(t, impl.TraceCode(m, tr), 0, "a witness", tr, m)
	return tr, impl.TraceBad(m, tr)
}

// Folded, cut, and both: a model is as deep as it was, and safe or not; folded it has the same witness.
func TestP4AnswersStay(t *testing.T) {
	depths := map[int]int{}
	smaller := 0
	for _, m := range foldModels(t, 0) {
		checkAnswers(t, m)
	}
	for _, m := range append(foldableModels(150), deepModels()...) {
		depths[checkAnswers(t, m)]++
		smaller += flag(len(impl.ModelCone(m).Nodes) < len(impl.ModelFold(m).Nodes))
	}
	if depths[-1] < 30 || depths[0] < 30 || depths[1] < 15 || depths[2] < 15 || depths[3]+depths[4]+depths[5] < 30 || smaller < 100 {
		t.Fatal("the models are too plain", depths, smaller)
	}
}

// checkAnswers tells the depth of a model, -1 of one that is safe.
func checkAnswers(t *testing.T, m impl.Model) int {
	t.Helper()
	tr, bad := leastOf(t, m)
	same, also := leastOf(t, impl.ModelFold(m))
	if !sameTrace(same, tr) || also != bad {
		t.Fatal("folded the witness is", same, also, "and was", tr, bad, "of", m)
	}
	for _, cut := range []impl.Model{impl.ModelCone(m), impl.ModelCone(impl.ModelFold(m)), impl.ModelFold(impl.ModelCone(m))} {
		other, met := leastOf(t, cut)
		wantInt(t, len(other.States), len(tr.States), "moments of the witness of", cut, m)
		wantInt(t, flag(met < 0), flag(bad < 0), "safe", cut, m)
	}
	return len(tr.States) - 1
}

// deepModels count by an input, beside other nodes, up to a bad that is met only behind several steps.
func deepModels() []impl.Model {
	var l []impl.Model
	for seed := range uint64(200) {
		r := rand.New(rand.NewPCG(seed, 4))
		m := impl.Model{Nodes: []impl.Node{
			{Kind: impl.OpState, Sort: words(3), Name: "n"},
			{Kind: impl.OpInput, Sort: words(1), Name: "go"},
			{Kind: impl.OpState, Sort: words(1), Name: "y"},
			constNode(3, r.IntN(8)), constNode(3, r.IntN(8)), constNode(1, r.IntN(2)),
			{Kind: impl.OpZext, A: 1, N: 2, Sort: words(3)},
			{Kind: impl.OpAdd, A: 6, B: 0, Sort: words(3)},
			{Kind: impl.OpEq, A: 4, B: 0, Sort: words(1)},
			{Kind: impl.OpXor, A: 1, B: 2, Sort: words(1)},
		}}
		for range 400 {
			if len(m.Nodes) < 10+r.IntN(20) {
				m.Nodes = append(m.Nodes, foldableNode(r, m.Nodes)...)
			}
		}
		m.Inits = []impl.Bind{{State: 0, Node: 3}, {State: 2, Node: 5}}[:1+r.IntN(2)]
		m.Nexts = []impl.Bind{{State: 0, Node: 7}, {State: 2, Node: 9}}[:1+r.IntN(2)]
		m.Bads = list(8)
		if bit := anyOf(r, m.Nodes, words(1), 1); r.IntN(2) == 0 {
			m.Holds = list(bit)
		}
		l = append(l, m)
	}
	return l
}

// checkSameTrace holds the code and the bad of a trace in a folded model to those in the model; it tells the code.
func checkSameTrace(t *testing.T, m impl.Model, tr impl.Trace) int {
	t.Helper()
	code := impl.TraceCode(m, tr)
	wantTrace(t, impl.ModelFold(m), tr, code, impl.TraceBad(m, tr), m)
	return code
}

func TestP49TracesStay(t *testing.T) {
	r := rand.New(rand.NewPCG(49, 9))
	codes := map[int]int{}
	for _, m := range append(foldModels(t, 300), deepModels()...) {
		for count := range 4 {
			codes[checkSameTrace(t, m, someTrace(r, m, count+1))]++
			inputs := someInputs(r, m, count+1)
			began := run(t, m, beginning(t, m, anyWord(r)), inputs...)
			codes[checkSameTrace(t, m, began)]++
			if again := run(t, impl.ModelFold(m), began.States[0], inputs...); !sameTrace(again, began) {
				t.Fatal("played", again, "was", began, "of", m)
			}
			began.States[r.IntN(count+1)] = r.IntN(power(bitCount(m, impl.OpState)))
			codes[checkSameTrace(t, m, began)]++
			began.Inputs = began.Inputs[:count]
			codes[checkSameTrace(t, m, began)]++
		}
	}
	for code := range impl.TraceNoBad + 1 {
		if codes[code] < 50 {
			t.Fatal("the traces are too plain", codes)
		}
	}
}

// By each fault at each moment, and by as many moments as fit, the code is the same when the model is folded.
func TestP49EachCodeStays(t *testing.T) {
	m := read(t, "0 state 3 x\n1 const 3 0\n2 const 3 1\n3 add 0 2\n4 input 1 holds\n5 input 1 bad\n6 not 4\n7 not 6\n8 or 1 3\n9 sub 1 1\n10 and 5 5\ninit 0 9\nnext 0 8\nhold 7\nbad 10\n")
	if len(impl.ModelFold(m).Nodes) != 7 {
		t.Fatal("folded", impl.ModelFold(m))
	}
	good := run(t, m, 0, 1, 1, 1, 3)
	wantInt(t, checkSameTrace(t, m, good), 0, "a witness")
	for at := range 4 {
		for _, c := range [][2]int{{0, impl.TraceHold}, {-1, impl.TraceShape}, {4, impl.TraceShape}} {
			tr := copyTrace(good)
			tr.Inputs[at] = c[0]
			wantInt(t, checkSameTrace(t, m, tr), c[1], "an input", at, c)
		}
		tr := copyTrace(good)
		tr.States[at] = 5
		wantInt(t, checkSameTrace(t, m, tr), []int{impl.TraceInit, impl.TraceStep}[flag(at > 0)], "a state", at)
		tr.States[at] = 8
		wantInt(t, checkSameTrace(t, m, tr), impl.TraceShape, "no state", at)
	}
	good.Inputs[3] = 1
	wantInt(t, checkSameTrace(t, m, good), impl.TraceNoBad, "nothing bad")
	for _, moments := range list(1, impl.TraceMax, impl.TraceMax+1) {
		long := run(t, m, 0, repeated(3, moments)...)
		wantInt(t, checkSameTrace(t, m, long), 0, "moments", moments)
	}
	long := impl.Trace{States: repeated(0, impl.TraceMax+2), Inputs: repeated(3, impl.TraceMax+2)}
	wantInt(t, checkSameTrace(t, m, long), impl.TraceShape, "a moment more")
	wantInt(t, checkSameTrace(t, m, impl.Trace{}), impl.TraceShape, "no moment")
}

// A further node that is like one that is there changes nothing, whichever it is, and however many of them there are.
func TestP57FurtherNodesThatAreThere(t *testing.T) {
	tried := map[int]int{}
	for _, m := range foldModels(t, 400) {
		want := impl.ModelFold(m)
		all := copyModel(m)
		for _, n := range m.Nodes {
			if n.Kind == impl.OpState || n.Kind == impl.OpInput {
				continue
			}
			more := copyModel(m)
			more.Nodes = append(more.Nodes, n)
			if len(more.Nodes) > impl.NodeMax {
				continue
			}
			tried[n.Kind]++
			if got := impl.ModelFold(more); !sameModel(got, want) {
				t.Fatal("folded", got, "want", want, "with a further", n, "of", m)
			}
			if len(all.Nodes) < impl.NodeMax {
				all.Nodes = append(all.Nodes, n)
			}
		}
		if got := impl.ModelFold(all); !sameModel(got, want) {
			t.Fatal("folded", got, "want", want, "with all nodes twice", m)
		}
	}
	for _, row := range kindRows() {
		if named := row.kind == impl.OpState || row.kind == impl.OpInput; !named && tried[row.kind] < 20 {
			t.Fatal("too few nodes of a kind", row.word, tried)
		}
	}
}

// What is made of nodes that are like each other is like each other, too; parts in another order are the same of nine kinds only.
func TestP57WhatIsAlikeIsShared(t *testing.T) {
	base := "0 state 2 x\n1 state 2 y\n"
	for _, row := range kindRows() {
		if row.parts != 2 || row.kind == impl.OpRead {
			continue
		}
		word := row.word
		even := slices.Contains(evenKinds(), row.kind)
		text := base + "2 " + word + " 0 1\n3 " + word + " 1 0\n4 " + word + " 0 1\n5 odd 2\n6 odd 3\n7 odd 4\n8 odd 4\n"
		want := base + "2 " + word + " 0 1\n3 " + word + " 1 0\n4 odd 2\n5 odd 3\n"
		if even {
			want = base + "2 " + word + " 0 1\n3 odd 2\n"
		}
		checkFoldText(t, text, want)
		text = base + "2 " + word + " 1 0\n3 " + word + " 0 1\n4 " + word + " 1 0\n5 odd 3\n6 odd 4\n"
		want = base + "2 " + word + " 1 0\n3 " + word + " 0 1\n4 odd 3\n5 odd 2\n"
		if even {
			want = base + "2 " + word + " 0 1\n3 odd 2\n"
		}
		checkFoldText(t, text, want)
	}
	// Numbers tell nodes apart, and so do kinds.
	apart := "0 state 3 x\n1 slice 0 2 1\n2 slice 0 1 0\n3 slice 0 1 1\n4 slice 0 2 2\n5 zext 0 1\n6 zext 0 2\n7 sext 0 1\n8 sext 0 2\n9 const 3 1\n10 const 3 2\n11 const 4 1\n12 not 0\n13 neg 0\n"
	checkFoldText(t, apart, apart)
	// Arrays in one order only; choices, too.
	checkFoldText(t, "0 state 1:1 a\n1 state 1:1 b\n2 input 1 i\n3 eq 1 0\n4 eq 0 1\n5 if 2 0 1\n6 if 2 1 0\n7 if 2 0 1\n8 put 0 2 2\n9 put 0 2 2\n10 put 1 2 2\n11 eq 5 7\n12 eq 8 9\n13 read 5 2\n14 read 7 2\n",
		"0 state 1:1 a\n1 state 1:1 b\n2 input 1 i\n3 eq 0 1\n4 if 2 0 1\n5 if 2 1 0\n6 put 0 2 2\n7 put 1 2 2\n8 const 1 1\n9 read 4 2\n")
}

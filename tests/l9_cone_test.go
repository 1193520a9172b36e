package tests

import (
	"math/rand/v2"
	"slices"
	"strconv"
	"testing"

	"loop.example/leadline/impl"
)

// P7: a witness of what matters is one of the whole. P8: what matters is whole.

// By a bad, a hold, a part, an init and a next: what matters alone, and what does not.
func TestP8WhatMatters(t *testing.T) {
	base := "0 state 1 x\n1 state 1 y\n2 input 1 i\n3 const 1 1\n4 and 0 2\n5 not 1\n"
	checkConeText(t, base, nil, "")
	checkConeText(t, base+"bad 0\n", list(0), "0 state 1 x\nbad 0\n")
	checkConeText(t, base+"bad 1\n", list(1), "0 state 1 y\nbad 0\n")
	checkConeText(t, base+"hold 2\n", list(2), "0 input 1 i\nhold 0\n")
	checkConeText(t, base+"hold 3\nbad 5\n", list(1, 3, 5), "0 state 1 y\n1 const 1 1\n2 not 0\nbad 2\nhold 1\n")
	checkConeText(t, base+"bad 4\n", list(0, 2, 4), "0 state 1 x\n1 input 1 i\n2 and 0 1\nbad 2\n")
	// An init and a next of a state that matters, and of one that does not.
	checkConeText(t, base+"init 0 3\nbad 0\n", list(0, 3), "0 state 1 x\n1 const 1 1\ninit 0 1\nbad 0\n")
	checkConeText(t, base+"init 1 3\nbad 0\n", list(0), "0 state 1 x\nbad 0\n")
	checkConeText(t, base+"next 0 5\nbad 0\n", list(0, 1, 5), "0 state 1 x\n1 state 1 y\n2 not 1\nnext 0 2\nbad 0\n")
	checkConeText(t, base+"next 1 5\nbad 0\n", list(0), "0 state 1 x\nbad 0\n")
	checkConeText(t, base+"init 1 3\ninit 0 3\nnext 1 0\nnext 0 4\nbad 0\n", list(0, 2, 3, 4), "0 state 1 x\n1 input 1 i\n2 const 1 1\n3 and 0 1\ninit 0 2\nnext 0 3\nbad 0\n")
	// Binds matter by nothing else: neither a state nor a node is kept by them alone.
	checkConeText(t, base+"init 0 3\ninit 1 3\nnext 0 4\nnext 1 5\n", nil, "")
	// All that is bad, and all that must hold, with what is there twice, in order.
	checkConeText(t, base+"bad 5\nbad 1\nbad 5\nhold 1\nhold 1\n", list(1, 5), "0 state 1 y\n1 not 0\nbad 1\nbad 0\nbad 1\nhold 0\nhold 0\n")
	// Binds stay in their order.
	checkConeText(t, base+"init 1 3\ninit 0 3\nnext 1 0\nnext 0 1\nbad 1\n", list(0, 1, 3), "0 state 1 x\n1 state 1 y\n2 const 1 1\ninit 1 2\ninit 0 2\nnext 1 0\nnext 0 1\nbad 1\n")
}

// Each part of a node matters, of all kinds; a number and a field that is no part bring in nothing.
func TestP8EachPart(t *testing.T) {
	l := rightNodes()
	for at, n := range l {
		m := impl.Model{Nodes: append(slices.Clone(l), impl.Node{Kind: impl.OpEq, A: at, B: at, Sort: words(1)}), Bads: list(len(l))}
		want := append(partsOf(n), at, len(l))
		slices.Sort(want)
		if got := impl.ModelKept(m); !slices.Equal(got, slices.Compact(want)) {
			t.Fatal("kept", got, "want", want, "by", n)
		}
		checkCone(t, m)
	}
	for at, text := range []string{"if 0 1 2", "if 1 3 4", "put 5 0 1", "read 5 1", "slice 6 1 1", "zext 2 3", "sext 0 2", "not 1", "and 3 4"} {
		m := read(t, "0 input 1 a\n1 input 1 b\n2 input 1 c\n3 state 1 d\n4 state 1 e\n5 state 1:1 f\n6 state 2 g\n7 "+text+"\n8 eq 7 7\nbad 8\n")
		want := [][]int{{0, 1, 2}, {1, 3, 4}, {0, 1, 5}, {1, 5}, {6}, {2}, {0}, {1}, {3, 4}}[at]
		if got := impl.ModelKept(m); !slices.Equal(got, append(want, 7, 8)) {
			t.Fatal("kept", got, "want", want, "of", text)
		}
		checkCone(t, m)
	}
}

// chain is a model of states, each of which becomes the one that is told for it (-1: none), and begins with 1.
func chain(t *testing.T, next ...int) impl.Model {
	t.Helper()
	var text, binds string
	for i, to := range next {
		text += strconv.Itoa(i) + " state 1 s" + strconv.Itoa(i) + "\n"
		if to >= 0 {
			binds += "next " + strconv.Itoa(i) + " " + strconv.Itoa(to) + "\n"
		}
	}
	return read(t, text+binds)
}

// In a chain all that is ahead of a state matters; in a ring all of it does, wherever it is looked at.
func TestP8ChainsAndRings(t *testing.T) {
	up, down, ring := chain(t, 1, 2, 3, 4, 5, 6, 7, -1), chain(t, -1, 0, 1, 2, 3, 4, 5, 6), chain(t, 3, 6, 0, 7, 1, 2, 5, 4)
	two, self := chain(t, 1, 0, 3, 2, 5, 4, 7, 6), chain(t, 0, 1, 2, 3, 4, 5, 6, 7)
	for at := range 8 {
		pair := list(at&^1, at|1)
		for i, c := range []struct {
			m    impl.Model
			want []int
		}{
			{up, list(0, 1, 2, 3, 4, 5, 6, 7)[at:]}, {down, list(0, 1, 2, 3, 4, 5, 6, 7)[:at+1]}, {ring, list(0, 1, 2, 3, 4, 5, 6, 7)}, {two, pair}, {self, list(at)},
		} {
			m := copyModel(c.m)
			m.Bads = list(at)
			if got := impl.ModelKept(m); !slices.Equal(got, c.want) {
				t.Fatal("kept", got, "want", c.want, "of chain", i, "by", at)
			}
			checkCone(t, m)
			m.Bads, m.Holds = nil, list(at, at)
			if got := impl.ModelKept(m); !slices.Equal(got, c.want) {
				t.Fatal("kept", got, "want", c.want, "of chain", i, "by hold", at)
			}
			checkCone(t, m)
		}
	}
	// Two bads, each of a ring of its own, and a hold of a third one.
	two.Bads, two.Holds = list(2, 7), list(0)
	if got := impl.ModelKept(two); !slices.Equal(got, list(0, 1, 2, 3, 6, 7)) {
		t.Fatal("kept", got)
	}
	checkCone(t, two)
}

// A chain through parts, inits and nexts: a node behind brings in one ahead, and that one behind it.
func TestP8ChainsThroughNodes(t *testing.T) {
	m := read(t, "0 state 1 a\n1 state 1 b\n2 state 1 c\n3 input 1 i\n4 input 1 j\n5 const 1 0\n6 not 5\n7 xor 1 3\n8 not 2\n9 or 8 5\n10 and 4 3\n11 not 10\n"+
		"init 2 6\nnext 0 7\nnext 1 9\nnext 2 2\nbad 0\n")
	if got := impl.ModelKept(m); !slices.Equal(got, list(0, 1, 2, 3, 5, 6, 7, 8, 9)) {
		t.Fatal("kept", got)
	}
	checkCone(t, m)
	// Without the next of b neither c nor what it begins with matters.
	m.Nexts = slices.Delete(m.Nexts, 1, 2)
	if got := impl.ModelKept(m); !slices.Equal(got, list(0, 1, 3, 7)) {
		t.Fatal("kept", got)
	}
	checkCone(t, m)
}

// A state of an array that begins with a word, and is read.
func TestP8Arrays(t *testing.T) {
	checkConeText(t, "0 const 2 3\n1 state 1:2 m\n2 state 1:2 n\n3 input 1 i\n4 input 1 j\n5 put 1 3 0\n6 put 2 4 0\n7 read 1 3\n8 all 7\n9 eq 5 6\ninit 1 0\ninit 2 0\nnext 1 5\nnext 2 6\nbad 8\n",
		list(0, 1, 3, 5, 7, 8), "0 const 2 3\n1 state 1:2 m\n2 input 1 i\n3 put 1 2 0\n4 read 1 2\n5 all 4\ninit 1 0\nnext 1 3\nbad 5\n")
}

// Models of which nothing matters, and of which all does.
func TestP8NothingAndAll(t *testing.T) {
	for _, m := range foldModels(t, 200) {
		bare := copyModel(m)
		bare.Bads, bare.Holds = nil, nil
		if got := impl.ModelKept(bare); len(got) != 0 || !sameModel(impl.ModelCone(bare), impl.Model{}) {
			t.Fatal("kept", got, "of", bare)
		}
		cone := checkCone(t, m)
		all := impl.ModelKept(cone)
		wantInt(t, len(all), len(cone.Nodes), "what matters of what matters", m)
		for i, at := range all {
			wantInt(t, at, i, "place of what matters", m)
		}
	}
	whole := "0 state 1 x\n1 input 1 i\n2 const 1 0\n3 xor 0 1\ninit 0 2\nnext 0 3\nbad 0\n"
	checkConeText(t, whole, list(0, 1, 2, 3), whole)
	full := counterModel()
	full.Holds = append(full.Holds, 8)
	full.Bads = list(10)
	// Of the counter only the array, with what is put there, matters by nothing.
	if got := impl.ModelKept(full); !slices.Equal(got, list(0, 1, 2, 3, 6, 7, 8, 10)) {
		t.Fatal("kept", got)
	}
	checkCone(t, full)
}

// By the promise alone: of what is kept all parts, inits and nexts are kept, and all that is bad or must hold; the places ascend.
func TestP8WhatMattersIsWhole(t *testing.T) {
	part := 0
	for _, m := range foldModels(t, 400) {
		kept := impl.ModelKept(m)
		part += flag(len(kept) > 0 && len(kept) < len(m.Nodes))
		has := func(at int) {
			if !slices.Contains(kept, at) {
				t.Fatal("not kept", at, kept, m)
			}
		}
		for i, at := range kept {
			if i > 0 && at <= kept[i-1] {
				t.Fatal("order", kept)
			}
			for _, p := range partsOf(m.Nodes[at]) {
				has(p)
			}
			for _, b := range append(slices.Clone(m.Inits), m.Nexts...) {
				if b.State == at {
					has(b.Node)
				}
			}
		}
		for _, at := range append(slices.Clone(m.Bads), m.Holds...) {
			has(at)
		}
		checkCone(t, m)
	}
	if part < 200 {
		t.Fatal("too few models of which a part matters", part)
	}
}

// coneLift has states that matter and that do not, each bound by an init, a next, both and none, and inputs likewise.
const coneLift = "0 state 1 a\n1 state 1 b\n2 state 1 c\n3 state 1 d\n4 state 1 e\n5 state 1 f\n6 input 1 i\n7 input 1 j\n8 input 1 k\n9 const 1 1\n10 xor 4 7\n11 not 2\n12 or 0 8\n" +
	"init 0 9\nnext 0 11\ninit 1 9\nnext 2 12\ninit 4 9\nnext 4 10\nnext 5 4\nbad 2\nhold 6\n"

// Reckoned by hand: what matters are a, c (states 0 and 2), and the inputs i and k.
func TestP7LiftedByHand(t *testing.T) {
	m := read(t, coneLift)
	checkCone(t, m)
	if got := impl.ModelKept(m); !slices.Equal(got, list(0, 2, 6, 8, 9, 11, 12)) {
		t.Fatal("kept", got)
	}
	// b begins with 1, d and f with 0; e begins with 1 and stays so, as j is 0; f becomes what e was; b and d are 0 from then on.
	for _, c := range []struct{ states, inputs, lifted, played []int }{
		{list(0), list(0), list(2 + 16), list(0)},
		{list(3), list(3), list(1 + 2 + 4 + 16), list(5)},
		{list(1, 2), list(2, 1), list(1+2+16, 4+16+32), list(4, 1)},
		{list(0, 0, 0), list(0, 0, 0), list(2+16, 16+32, 16+32), list(0, 0, 0)},
		{list(2, 3, 1, 0), list(1, 2, 3, 0), list(2+4+16, 1+4+16+32, 1+16+32, 16+32), list(1, 4, 5, 0)},
	} {
		got, ok := impl.TraceLift(m, impl.Trace{States: c.states, Inputs: c.inputs})
		if !ok || !slices.Equal(got.States, c.lifted) || !slices.Equal(got.Inputs, c.played) {
			t.Fatal("lifted", got, ok, "want", c.lifted, c.played)
		}
		checkLift(t, m, impl.Trace{States: c.states, Inputs: c.inputs})
	}
}

// All traces of one and of two moments.
func TestP7EachShortTrace(t *testing.T) {
	for _, text := range []string{coneLift, coneLift + "bad 9\n", "0 state 1 x\n1 state 2 y\n2 input 1 i\n3 const 2 2\n4 zext 0 1\n5 add 1 4\n6 and 0 2\nnext 1 5\ninit 1 3\nbad 6\n"} {
		m := read(t, text)
		cone := wantCone(m)
		states, inputs := power(bitCount(cone, impl.OpState)), power(bitCount(cone, impl.OpInput))
		for s := range states {
			for in := range inputs {
				checkLift(t, m, impl.Trace{States: list(s), Inputs: list(in)})
				for after := range states * inputs {
					checkLift(t, m, impl.Trace{States: list(s, after%states), Inputs: list(in, after/states)})
				}
			}
		}
	}
}

// What does not matter may become what what matters makes of it, and the other way round never.
func TestP7WhatComesOfWhatMatters(t *testing.T) {
	m := read(t, "0 state 2 x\n1 state 2 sum\n2 state 1:2 log\n3 input 1 go\n4 input 1 at\n5 const 2 3\n6 zext 3 1\n7 add 0 6\n8 add 1 0\n9 put 2 4 1\n10 all 0\ninit 0 5\ninit 2 5\nnext 0 7\nnext 1 8\nnext 2 9\nbad 10\n")
	if got := impl.ModelKept(m); !slices.Equal(got, list(0, 3, 5, 6, 7, 10)) {
		t.Fatal("kept", got)
	}
	// The steps need not fit: what matters is as in the trace.
	got := checkLift(t, m, impl.Trace{States: list(3, 0, 1, 2), Inputs: list(1, 1, 0, 0)})
	// The sums are 0, 3, 3 and 0; the log's first cell is what the sum was, its second cell stays 3.
	want := list(3+0*4+3*16+3*64, 0+3*4+0*16+3*64, 1+3*4+3*16+3*64, 2+0*4+3*16+3*64)
	if !slices.Equal(got.States, want) || !slices.Equal(got.Inputs, list(1, 1, 0, 0)) {
		t.Fatal("lifted", got, "want", want)
	}
	// Where a state that does not matter hangs on itself, and on an input that does not matter, which is 0.
	m = read(t, "0 state 2 n\n1 input 1 up\n2 const 2 1\n3 add 0 2\n4 if 1 0 3\n5 state 1 b\ninit 0 2\nnext 0 4\nbad 5\n")
	got = checkLift(t, m, impl.Trace{States: list(0, 1, 1, 0), Inputs: list(0, 0, 0, 0)})
	if !slices.Equal(got.States, list(1, 4+2, 4+3, 0)) || !slices.Equal(got.Inputs, list(0, 0, 0, 0)) {
		t.Fatal("lifted", got)
	}
}

// Of one moment, and of as many as fit; of models of which nothing matters there is one number of a state and an input.
func TestP7LengthsOfTraces(t *testing.T) {
	r := rand.New(rand.NewPCG(7, 1))
	models := []impl.Model{read(t, coneLift), counterModel(), {}, freeModel(), read(t, "0 state 2 x\n1 input 1 i\n2 const 2 1\n3 add 0 2\nnext 0 3\n")}
	for _, m := range models {
		for _, moments := range list(1, 2, impl.TraceMax, impl.TraceMax+1) {
			tr := someTrace(r, wantCone(m), moments)
			got := checkLift(t, m, tr)
			wantInt(t, len(got.States), moments, "moments")
			tr.States, tr.Inputs = append(tr.States, repeated(0, impl.TraceMax)...), append(tr.Inputs, repeated(0, impl.TraceMax)...)
			if moments > 1 {
				wantNoLift(t, m, tr, "more moments than fit")
			}
		}
	}
	counted := checkLift(t, models[4], impl.Trace{States: repeated(0, 6), Inputs: repeated(0, 6)})
	if !slices.Equal(counted.States, list(0, 1, 2, 3, 0, 1)) {
		t.Fatal("lifted", counted)
	}
}

// What matters is in the trace that is lifted as it was, moment by moment.
func TestP7MadeUpTraces(t *testing.T) {
	r := rand.New(rand.NewPCG(7, 2))
	gone := 0
	for _, m := range append(foldModels(t, 400), deepModels()...) {
		cone, kept := wantCone(m), wantKept(m)
		for count := range 3 {
			tr := someTrace(r, cone, count+1)
			lifted := checkLift(t, m, tr)
			for i := range tr.States {
				wantInt(t, cutNumber(m, cone, kept, impl.OpState, lifted.States[i]), tr.States[i], "state", i, lifted, m)
				wantInt(t, cutNumber(m, cone, kept, impl.OpInput, lifted.Inputs[i]), tr.Inputs[i], "input", i, lifted, m)
			}
		}
		gone += flag(bitCount(m, impl.OpState) > bitCount(cone, impl.OpState) && bitCount(m, impl.OpInput) > bitCount(cone, impl.OpInput) && len(cone.Nodes) > 0)
	}
	if gone < 30 {
		t.Fatal("too few models of which states and inputs do not matter", gone)
	}
}

// A trace of the cone and the trace that is lifted have the same code, whatever it is, and the same bad.
func TestP7CodesOfLiftedTraces(t *testing.T) {
	r := rand.New(rand.NewPCG(7, 3))
	codes := map[int]int{}
	for _, m := range append(foldableModels(200), deepModels()...) {
		cone := impl.ModelCone(m)
		for count := range 4 {
			began := run(t, cone, beginning(t, cone, anyWord(r)), someInputs(r, cone, count+1)...)
			spoilt := copyTrace(began)
			spoilt.States[r.IntN(count+1)] = r.IntN(power(bitCount(cone, impl.OpState)))
			for _, tr := range []impl.Trace{began, spoilt, someTrace(r, cone, count+1)} {
				lifted, ok := impl.TraceLift(m, tr)
				code := impl.TraceCode(cone, tr)
				if !ok {
					t.Fatal("not lifted", tr, m)
				}
				wantTrace(t, m, lifted, code, impl.TraceBad(cone, tr), "lifted of", tr)
				codes[code]++
			}
		}
	}
	for _, code := range list(0, impl.TraceInit, impl.TraceStep, impl.TraceHold, impl.TraceNoBad) {
		if codes[code] < 50 {
			t.Fatal("the traces are too plain", codes)
		}
	}
}

// The least witness of the part that matters, lifted, is a witness of the model, as long and with the same bad.
func TestP7LeastWitnesses(t *testing.T) {
	lengths, gone := map[int]int{}, 0
	models := append(foldableModels(200), deepModels()...)
	for _, text := range plainTexts() {
		models = append(models, read(t, text))
	}
	for _, m := range models {
		for _, whole := range []impl.Model{m, impl.ModelFold(m)} {
			cone := impl.ModelCone(whole)
			least, bad := leastOf(t, cone)
			if bad < 0 {
				continue
			}
			lifted := checkLift(t, whole, least)
			wantTrace(t, whole, lifted, 0, bad, "lifted of", least)
			wantInt(t, len(lifted.States), len(least.States), "moments")
			lengths[len(least.States)]++
			gone += flag(bitCount(whole, impl.OpState) > bitCount(cone, impl.OpState))
		}
	}
	if lengths[1] < 30 || lengths[2] < 30 || lengths[3] < 20 || gone < 50 {
		t.Fatal("the witnesses are too plain", lengths, gone)
	}
}

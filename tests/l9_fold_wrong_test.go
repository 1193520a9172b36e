package tests

import (
	"math/rand/v2"
	"slices"
	"testing"

	"loop.example/leadline/impl"
)

// wantNothing holds all functions to what they tell of a model that is not ok.
func wantNothing(t *testing.T, m impl.Model, what ...any) {
	t.Helper()
	if got := impl.ModelFold(m); !sameModel(got, impl.Model{}) {
		t.Fatal(append([]any{"folded", got}, what...)...)
	}
	if got := impl.ModelKept(m); len(got) != 0 {
		t.Fatal(append([]any{"kept", got}, what...)...)
	}
	if got := impl.ModelCone(m); !sameModel(got, impl.Model{}) {
		t.Fatal(append([]any{"cut to", got}, what...)...)
	}
	// The first trace is one of nothing, which is a model.
	for _, tr := range []impl.Trace{{States: list(0), Inputs: list(0)}, {}, {States: list(0, 0, 0), Inputs: list(0, 0, 0)}, {States: list(1), Inputs: list(1)}, {States: list(-1), Inputs: list(-1)}} {
		wantNoLift(t, m, tr, what...)
	}
}

func TestP8ModelsThatAreNotOk(t *testing.T) {
	base := witnessModel()
	if len(impl.ModelFold(base).Nodes) == 0 || len(impl.ModelKept(base)) == 0 || len(impl.ModelCone(base).Nodes) == 0 {
		t.Fatal("the model without a flaw")
	}
	checkLift(t, base, impl.Trace{States: list(0), Inputs: list(0)})
	for _, f := range flaws() {
		m := copyModel(base)
		f.make(&m)
		wantCode(t, m, f.code, f.what)
		wantNothing(t, m, f.what)
		// What is bad, and what must hold, may be the flaw itself; without any there is still another one.
		if f.code != impl.ModelBadProp && f.code != impl.ModelTooMany {
			m.Bads, m.Holds = nil, nil
			wantNothing(t, m, f.what, "and nothing matters")
		}
	}
	for _, sorts := range [][2]impl.Sort{{words(9), words(1)}, {words(1), words(6)}, {arrays(2, 16), words(1)}, {words(1), arrays(2, 16)}} {
		wantNothing(t, impl.Model{Nodes: []impl.Node{
			{Kind: impl.OpState, Sort: sorts[0], Name: "x"},
			{Kind: impl.OpInput, Sort: sorts[1], Name: "i"},
			constNode(1, 1),
		}, Bads: list(2)}, sorts)
	}
}

// A flaw in what could be folded away, or does not matter, is a flaw.
func TestP6FlawsThatWouldBeFoldedAway(t *testing.T) {
	base := read(t, "0 state 2 x\n1 const 1 1\n2 const 2 0\n3 if 1 2 0\n4 not 0\n5 not 4\n6 sub 0 0\n")
	for _, node := range list(0, 3, 4, 5, 6) {
		m := copyModel(base)
		m.Inits = []impl.Bind{{State: 0, Node: node}}
		wantCode(t, m, impl.ModelBadBind, "an init that hangs on a state", node)
		wantNothing(t, m, node)
	}
	for _, wrong := range []impl.Node{
		{Kind: impl.OpSub, A: 0, B: 0, Sort: words(3)}, {Kind: impl.OpSub, A: 0, B: 7, Sort: words(2)}, {Kind: impl.OpAnd, A: 0, B: 0, C: 1, Sort: words(2)},
		{Kind: impl.OpZext, A: 0, M: 1, Sort: words(2)}, {Kind: impl.OpConst, N: 4, Sort: words(2)}, {Kind: impl.OpNot, A: 4, Sort: words(2), Name: "n"},
		{Kind: impl.OpIf, A: 1, B: 0, C: 1, Sort: words(2)}, {Kind: impl.OpRead, A: 0, B: 1, Sort: words(2)},
	} {
		m := copyModel(base)
		m.Nodes = append(m.Nodes, wrong)
		wantCode(t, m, impl.ModelBadNode, wrong)
		wantNothing(t, m, wrong)
	}
}

func TestP8HugeLists(t *testing.T) {
	wantNothing(t, impl.Model{Nodes: make([]impl.Node, 100000), Inits: make([]impl.Bind, 100000), Bads: make([]int, 100000)})
	wantNothing(t, impl.Model{Bads: list(0)})
	wantNothing(t, impl.Model{Holds: list(-1)})
	wantNothing(t, impl.Model{Inits: []impl.Bind{{}}})
	many := counterModel()
	many.Nodes = append(many.Nodes, slices.Repeat([]impl.Node{constNode(1, 1)}, impl.NodeMax-len(many.Nodes)+1)...)
	wantNothing(t, many, "a node too many, though it is there already")
}

// Of nothing there is nothing to fold and to cut, but there are traces.
func TestP8Nothing(t *testing.T) {
	for _, m := range []impl.Model{{}, {Nodes: []impl.Node{}, Inits: []impl.Bind{}, Nexts: []impl.Bind{}, Bads: list(), Holds: list()}} {
		if !sameModel(impl.ModelFold(m), impl.Model{}) || !sameModel(impl.ModelCone(m), impl.Model{}) || len(impl.ModelKept(m)) != 0 {
			t.Fatal("something of nothing")
		}
		checkLift(t, m, impl.Trace{States: list(0, 0), Inputs: list(0, 0)})
		wantNoLift(t, m, impl.Trace{}, "no moment")
		wantNoLift(t, m, impl.Trace{States: list(1), Inputs: list(0)}, "no state")
		wantNoLift(t, m, impl.Trace{States: list(0), Inputs: list(1)}, "no input")
	}
}

// What has TraceShape in the cone is not lifted: too few and too many moments, not as many of both, and numbers that are none there.
func TestP7TracesThatHaveNoShape(t *testing.T) {
	for _, m := range []impl.Model{read(t, coneLift), counterModel(), witnessModel(), freeModel()} {
		cone := impl.ModelCone(m)
		states, inputs := bitCount(cone, impl.OpState), bitCount(cone, impl.OpInput)
		good := impl.Trace{States: repeated(power(states)-1, 5), Inputs: repeated(power(inputs)-1, 5)}
		checkLift(t, m, good)
		for i := range 7 {
			for j := range 7 {
				tr := impl.Trace{States: repeated(0, i), Inputs: repeated(0, j)}
				if i != j || i == 0 {
					wantInt(t, impl.TraceCode(cone, tr), impl.TraceShape, "shape", i, j)
					wantNoLift(t, m, tr, i, j)
				} else {
					checkLift(t, m, tr)
				}
			}
		}
		for _, moments := range list(impl.TraceMax+2, impl.TraceMax+3, 2*impl.TraceMax, 10000) {
			wantNoLift(t, m, impl.Trace{States: repeated(0, moments), Inputs: repeated(0, moments)}, moments)
			wantNoLift(t, m, impl.Trace{States: repeated(0, moments), Inputs: list(0)}, moments)
			wantNoLift(t, m, impl.Trace{States: list(0), Inputs: repeated(0, moments)}, moments)
		}
		for at := range good.States {
			for _, number := range wrongNumbers(states) {
				if tr := copyTrace(good); number < 0 || number >= power(states) {
					tr.States[at] = number
					wantNoLift(t, m, tr, "state", at)
				}
			}
			for _, number := range wrongNumbers(inputs) {
				if tr := copyTrace(good); number < 0 || number >= power(inputs) {
					tr.Inputs[at] = number
					wantNoLift(t, m, tr, "input", at)
				}
			}
		}
	}
}

// Numbers of the whole are none of the cone, where they are too large, though the trace is a witness of the whole.
func TestP7NumbersOfTheWhole(t *testing.T) {
	m := read(t, "0 state 1 a\n1 state 2 x\n2 const 1 0\n3 const 2 3\n4 eq 1 3\n5 input 2 i\n6 input 1 j\n7 and 4 6\ninit 0 2\nbad 7\n")
	for state := range 8 {
		for input := range 8 {
			tr := impl.Trace{States: list(state), Inputs: list(input)}
			if state < 4 && input < 2 {
				checkLift(t, m, tr)
			} else {
				wantNoLift(t, m, tr, state, input)
			}
		}
	}
	wantTrace(t, m, impl.Trace{States: list(6), Inputs: list(4)}, 0, 0)
	got := checkLift(t, m, impl.Trace{States: list(3), Inputs: list(1)})
	if !sameTrace(got, impl.Trace{States: list(6), Inputs: list(4)}) {
		t.Fatal("lifted", got)
	}
}

// spoilLists writes into all lists of a model, spare room included.
func spoilLists(m impl.Model, mark int) {
	whole := wholeModel(m)
	for i := range whole.Nodes {
		whole.Nodes[i] = impl.Node{Kind: mark}
	}
	for _, l := range [][]impl.Bind{whole.Inits, whole.Nexts} {
		for i := range l {
			l[i] = impl.Bind{State: mark, Node: mark}
		}
	}
	for _, l := range [][]int{whole.Bads, whole.Holds} {
		for i := range l {
			l[i] = mark
		}
	}
}

// wantListsApart fails if two lists of one model share memory, spare room included.
func wantListsApart(t *testing.T, m impl.Model) {
	t.Helper()
	whole := wholeModel(m)
	for _, pair := range [][2][]impl.Bind{{whole.Inits, whole.Nexts}, {whole.Nexts, whole.Inits}} {
		other := slices.Clone(pair[1])
		for i := range pair[0] {
			pair[0][i] = impl.Bind{State: 2000 + i, Node: i}
		}
		if !slices.Equal(pair[1], other) {
			t.Fatal("inits and nexts share memory")
		}
	}
	for _, pair := range [][2][]int{{whole.Bads, whole.Holds}, {whole.Holds, whole.Bads}} {
		other := slices.Clone(pair[1])
		for i := range pair[0] {
			pair[0][i] = 2000 + i
		}
		if !slices.Equal(pair[1], other) {
			t.Fatal("bads and holds share memory")
		}
	}
}

// Answers are new memory, of models that are folded or cut to themselves, too; nothing is written into a model or behind the end of its lists.
func TestP6MemoryIsKeptApart(t *testing.T) {
	models := foldModels(t, 60)
	for _, m := range append(models, impl.ModelFold(models[0]), impl.ModelCone(models[1])) {
		roomy := roomyModel(m)
		kept := copyModel(wholeModel(roomy))
		for _, f := range []func(m impl.Model) impl.Model{impl.ModelFold, impl.ModelCone} {
			got := f(roomy)
			want := copyModel(got)
			wantListsApart(t, got)
			spoilLists(got, 3000)
			if !sameModel(wholeModel(roomy), kept) {
				t.Fatal("the model was written into", wholeModel(roomy), kept)
			}
			if again := f(roomy); !sameModel(again, want) {
				t.Fatal("another answer", again, want)
			}
		}
		places := impl.ModelKept(roomy)
		want := slices.Clone(places)
		for i := range places[:cap(places)] {
			places[:cap(places)][i] = 3000
		}
		if again := impl.ModelKept(roomy); !slices.Equal(again, want) || !sameModel(wholeModel(roomy), kept) {
			t.Fatal("another answer", again, want)
		}
	}
}

// A model whose lists share memory is folded and cut as any other, and its answer shares none.
func TestP6ListsOfOneMemory(t *testing.T) {
	m := read(t, "0 state 1 x\n1 state 1 y\n2 not 0\n3 not 1\n")
	props, binds := list(2, 3, 2), []impl.Bind{{State: 0, Node: 2}, {State: 1, Node: 3}}
	m.Bads, m.Holds, m.Nexts = props, props, binds
	for _, f := range []func(m impl.Model) impl.Model{impl.ModelFold, impl.ModelCone} {
		got := f(m)
		if !sameModel(got, m) {
			t.Fatal("folded, or cut", got)
		}
		wantListsApart(t, got)
		spoilLists(got, 3000)
		if !slices.Equal(props, list(2, 3, 2)) || !slices.Equal(binds, []impl.Bind{{State: 0, Node: 2}, {State: 1, Node: 3}}) {
			t.Fatal("an argument was written into", props, binds)
		}
	}
}

func TestP7MemoryIsKeptApart(t *testing.T) {
	r := rand.New(rand.NewPCG(7, 4))
	// Of the last model all matters, so that a trace is lifted to itself.
	for _, m := range []impl.Model{read(t, coneLift), counterModel(), read(t, "0 state 1 x\n1 input 1 i\n2 and 0 1\nbad 2\n")} {
		roomy := roomyModel(m)
		kept := copyModel(wholeModel(roomy))
		tr := someTrace(r, impl.ModelCone(m), 4)
		given := impl.Trace{States: append(slices.Clone(tr.States), 777)[:4], Inputs: append(slices.Clone(tr.Inputs), 777)[:4]}
		got, _ := impl.TraceLift(roomy, given)
		want := copyTrace(got)
		for i := range got.States[:cap(got.States)] {
			got.States[:cap(got.States)][i] = 3000
		}
		for i, input := range got.Inputs {
			wantInt(t, input, want.Inputs[i], "inputs share memory with states")
		}
		for i := range got.Inputs[:cap(got.Inputs)] {
			got.Inputs[:cap(got.Inputs)][i] = 4000
		}
		if !sameTrace(given, tr) || given.States[:5][4] != 777 || given.Inputs[:5][4] != 777 || !sameModel(wholeModel(roomy), kept) {
			t.Fatal("an argument was written into", given, tr)
		}
		if again, ok := impl.TraceLift(roomy, given); !ok || !sameTrace(again, want) {
			t.Fatal("another answer", again, want)
		}
		wantInt(t, got.States[0], 3000, "states share memory with inputs")
	}
}

// Nothing is kept between calls: what is folded or cut in between changes nothing.
func TestP6NothingIsKept(t *testing.T) {
	wrong := counterModel()
	wrong.Bads = list(0)
	models := foldModels(t, 20)
	for range 3 {
		for _, m := range models {
			checkFold(t, m)
			checkCone(t, m)
			wantNothing(t, wrong, "a bad of three bits")
		}
	}
}

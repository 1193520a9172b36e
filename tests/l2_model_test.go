package tests

import (
	"slices"
	"strconv"
	"testing"

	"loop.example/leadline/impl"
)

// P59: states and inputs are found, and the models in which they are.

func TestP59PlacesAndBits(t *testing.T) {
	for _, m := range someModels() {
		wantCode(t, m, 0)
		var states, inputs []int
		stateBits, inputBits := 0, 0
		for i, n := range m.Nodes {
			bits := power(n.Sort.Index) * n.Sort.Width
			if n.Kind == impl.OpState {
				states, stateBits = append(states, i), stateBits+bits
			}
			if n.Kind == impl.OpInput {
				inputs, inputBits = append(inputs, i), inputBits+bits
			}
		}
		if !slices.Equal(impl.ModelStates(m), states) || !slices.Equal(impl.ModelInputs(m), inputs) {
			t.Fatal("places", impl.ModelStates(m), impl.ModelInputs(m), "want", states, inputs)
		}
		if a, b := impl.ModelBits(m); a != stateBits || b != inputBits {
			t.Fatal("bits", a, b, "want", stateBits, inputBits)
		}
	}
}

func TestP59MadeUpModelsAreManifold(t *testing.T) {
	full, kinds, binds, props := 0, map[int]int{}, 0, 0
	for _, m := range someModels() {
		full += flag(len(m.Nodes) == impl.NodeMax)
		binds += flag(len(m.Inits) > 1 && len(m.Nexts) > 1)
		props += flag(len(m.Bads) > 1 && len(m.Holds) > 1)
		for _, n := range m.Nodes {
			kinds[n.Kind]++
		}
	}
	if full == 0 || len(kinds) != len(kindRows()) || binds < 20 || props < 20 {
		t.Fatal("the models that are made up are too plain", full, len(kinds), binds, props)
	}
}

func TestP59Sorts(t *testing.T) {
	for _, s := range allSorts() {
		if !impl.SortOk(s) {
			t.Fatal("a sort", s)
		}
		wantInt(t, impl.SortCells(s), power(s.Index), "cells", s)
		wantInt(t, impl.SortBits(s), power(s.Index)*s.Width, "bits", s)
	}
	wantInt(t, impl.SortBits(arrays(2, 16)), 64, "the largest sort")
	wantInt(t, impl.SortCells(words(1)), 1, "one bit")
}

func TestP59SortsOfOneAndTwoParts(t *testing.T) {
	for _, row := range kindRows() {
		if row.parts != 1 && row.parts != 2 {
			continue
		}
		for _, a := range allSorts() {
			for _, b := range allSorts() {
				n := impl.Node{Kind: row.kind, A: 0}
				if row.parts == 2 {
					n.B = 1
				}
				checkSort(t, partNodes(a, b), n)
			}
		}
	}
}

func TestP59SortsOfThreeParts(t *testing.T) {
	var some []impl.Sort
	for i := range impl.IndexMax + 1 {
		some = append(some, arrays(i, 1), arrays(i, 2), arrays(i, 3), arrays(i, 16))
	}
	for _, a := range some {
		for _, b := range some {
			for _, c := range some {
				checkSort(t, partNodes(a, b, c), impl.Node{Kind: impl.OpIf, A: 0, B: 1, C: 2})
				checkSort(t, partNodes(c, b, a), impl.Node{Kind: impl.OpPut, A: 2, B: 1, C: 0})
			}
		}
	}
}

func TestP59SortsBySlicesAndGrowth(t *testing.T) {
	for _, s := range allSorts() {
		l := partNodes(s)
		for n := -2; n <= impl.WordMax+1; n++ {
			checkSort(t, l, impl.Node{Kind: impl.OpZext, N: n})
			checkSort(t, l, impl.Node{Kind: impl.OpSext, N: n})
			for m := -2; m <= impl.WordMax+1; m++ {
				checkSort(t, l, impl.Node{Kind: impl.OpSlice, N: n, M: m})
			}
		}
	}
}

func TestP59SortsThatAreTold(t *testing.T) {
	for _, s := range allSorts() {
		checkSort(t, nil, impl.Node{Kind: impl.OpInput, Sort: s, Name: "a"})
		checkSort(t, nil, impl.Node{Kind: impl.OpState, Sort: s, Name: "a"})
		for _, n := range []int{-1, 0, 1, power(s.Width) - 1, power(s.Width), 1 << 40} {
			checkSort(t, nil, impl.Node{Kind: impl.OpConst, Sort: s, N: n})
		}
	}
}

// The Sort of a node that does not tell its own is ModelCode's concern alone.
func TestP59SortOfOtherNodesIsNotAsked(t *testing.T) {
	l := rightNodes()
	for i, n := range l {
		if rowOf(n.Kind).parts == 0 {
			continue
		}
		for _, s := range []impl.Sort{{}, words(9), arrays(2, 9), arrays(-1, 99)} {
			want := n.Sort
			n.Sort = s
			if got, ok := impl.NodeSort(l[:i], n); got != want || !ok {
				t.Fatal("sort", got, ok, "want", want)
			}
			m := impl.Model{Nodes: slices.Clone(l)}
			m.Nodes[i] = n
			wantCode(t, m, impl.ModelBadNode, "another sort", i, s)
			n.Sort = want
		}
	}
}

func TestP59Names(t *testing.T) {
	for _, name := range []string{"a", "z", "a0", "z9", "abcdefgh", "a1234567", "x0y1z2", "init", "then"} {
		for _, kind := range []int{impl.OpInput, impl.OpState} {
			if _, ok := impl.NodeSort(nil, impl.Node{Kind: kind, Sort: words(1), Name: name}); !ok {
				t.Fatal("a name", name)
			}
		}
	}
}

func TestP59LimitsAreMet(t *testing.T) {
	full := impl.Model{Nodes: []impl.Node{{Kind: impl.OpConst, Sort: words(1)}}}
	for len(full.Nodes) < impl.NodeMax {
		full.Nodes = append(full.Nodes, impl.Node{Kind: impl.OpNot, A: len(full.Nodes) - 1, Sort: words(1)})
	}
	wantCode(t, full, 0, "all nodes")
	if s, ok := impl.NodeSort(full.Nodes, impl.Node{Kind: impl.OpNot, A: impl.NodeMax - 1}); !ok || s != words(1) {
		t.Fatal("a node behind as many as there may be", s, ok)
	}
	full.Nodes = append(full.Nodes, impl.Node{Kind: impl.OpNot, A: 0, Sort: words(1)})
	wantCode(t, full, impl.ModelTooMany, "a node more")
	wantNoSort(t, full.Nodes, impl.Node{Kind: impl.OpNot}, "behind too many")
	wantNoSort(t, full.Nodes, impl.Node{Kind: impl.OpConst, Sort: words(1)}, "behind too many")

	m := counterModel()
	m.Bads, m.Holds = []int{8, 8, 10, 3}, []int{3, 10, 8, 3}
	wantCode(t, m, 0, "all bads and holds")
	bads, holds := copyModel(m), copyModel(m)
	bads.Bads = append(bads.Bads, 8)
	holds.Holds = append(holds.Holds, 8)
	wantCode(t, bads, impl.ModelTooMany, "a bad more")
	wantCode(t, holds, impl.ModelTooMany, "a hold more")
}

// manyBinds are binds of different states, of which most are none.
func manyBinds(n int) []impl.Bind {
	var l []impl.Bind
	for i := range n {
		l = append(l, impl.Bind{State: i, Node: 1})
	}
	return l
}

func TestP59LimitsOfBinds(t *testing.T) {
	for _, more := range []int{0, 1} {
		want := []int{impl.ModelBadBind, impl.ModelTooMany}[more]
		m := counterModel()
		m.Inits = manyBinds(impl.NodeMax + more)
		wantCode(t, m, want, "inits", more)
		m = counterModel()
		m.Nexts = manyBinds(impl.NodeMax + more)
		wantCode(t, m, want, "nexts", more)
	}
}

func TestP59LimitsOfBits(t *testing.T) {
	for _, c := range []struct {
		kind  int
		sorts []impl.Sort
		code  int
	}{
		{impl.OpState, []impl.Sort{words(8)}, 0},
		{impl.OpState, []impl.Sort{words(9)}, impl.ModelTooBig},
		{impl.OpState, []impl.Sort{arrays(2, 2)}, 0},
		{impl.OpState, []impl.Sort{arrays(1, 4)}, 0},
		{impl.OpState, []impl.Sort{arrays(1, 5)}, impl.ModelTooBig},
		{impl.OpState, []impl.Sort{arrays(2, 1), words(3), words(1)}, 0},
		{impl.OpState, []impl.Sort{arrays(2, 1), words(4), words(1)}, impl.ModelTooBig},
		{impl.OpState, []impl.Sort{arrays(2, 16)}, impl.ModelTooBig},
		{impl.OpInput, []impl.Sort{words(5)}, 0},
		{impl.OpInput, []impl.Sort{words(6)}, impl.ModelTooBig},
		{impl.OpInput, []impl.Sort{arrays(2, 1), words(1)}, 0},
		{impl.OpInput, []impl.Sort{arrays(1, 2), words(2)}, impl.ModelTooBig},
		{impl.OpInput, []impl.Sort{arrays(1, 3)}, impl.ModelTooBig},
	} {
		var m impl.Model
		for i, s := range c.sorts {
			m.Nodes = append(m.Nodes, impl.Node{Kind: c.kind, Sort: s, Name: "n" + strconv.Itoa(i)})
		}
		wantCode(t, m, c.code, "bits", c.sorts)
	}
	both := impl.Model{Nodes: []impl.Node{
		{Kind: impl.OpState, Sort: words(8), Name: "s"},
		{Kind: impl.OpInput, Sort: words(5), Name: "i"},
		{Kind: impl.OpConst, Sort: words(16), N: 65535},
	}}
	wantCode(t, both, 0, "states and inputs are counted apart")
	if a, b := impl.ModelBits(both); a != impl.StateBitsMax || b != impl.InputBitsMax {
		t.Fatal("bits", a, b)
	}
}

// A word stands for each cell of an array in an init, but not in a next.
func TestP59WordsThatBeginArrays(t *testing.T) {
	m := impl.Model{Nodes: []impl.Node{
		{Kind: impl.OpState, Sort: arrays(2, 2), Name: "mem"},
		{Kind: impl.OpConst, Sort: words(2), N: 3},
		{Kind: impl.OpConst, Sort: words(1), N: 1},
		{Kind: impl.OpConst, Sort: words(8), N: 255},
		{Kind: impl.OpPut, A: 0, B: 1, C: 1, Sort: arrays(2, 2)},
		{Kind: impl.OpIf, A: 2, B: 0, C: 4, Sort: arrays(2, 2)},
	}}
	for node, want := range []int{impl.ModelBadBind, 0, impl.ModelBadBind, impl.ModelBadBind, impl.ModelBadBind, impl.ModelBadBind} {
		m.Inits, m.Nexts = []impl.Bind{{State: 0, Node: node}}, nil
		wantCode(t, m, want, "init", node)
	}
	for node, want := range []int{0, impl.ModelBadBind, impl.ModelBadBind, impl.ModelBadBind, 0, 0} {
		m.Inits, m.Nexts = nil, []impl.Bind{{State: 0, Node: node}}
		wantCode(t, m, want, "next", node)
	}
}

// An init is made of no state and no input, however far down; what stands at place 0 is no part of a node without parts.
func TestP59InitsHangOnNoRun(t *testing.T) {
	nodes := []impl.Node{
		{Kind: impl.OpState, Sort: words(1), Name: "s"},
		{Kind: impl.OpInput, Sort: words(1), Name: "i"},
		{Kind: impl.OpConst, Sort: words(1), N: 1},
	}
	for _, kind := range []int{impl.OpNot, impl.OpAny} {
		nodes = append(nodes, impl.Node{Kind: kind, A: 2, Sort: words(1)})
	}
	nodes = append(nodes,
		impl.Node{Kind: impl.OpAnd, A: 3, B: 4, Sort: words(1)},
		impl.Node{Kind: impl.OpIf, A: 5, B: 4, C: 3, Sort: words(1)},
		impl.Node{Kind: impl.OpSlice, A: 6, Sort: words(1)},
		impl.Node{Kind: impl.OpZext, A: 7, Sort: words(1)})
	free := len(nodes)
	for _, run := range []int{0, 1} {
		nodes = append(nodes,
			impl.Node{Kind: impl.OpSext, A: run, Sort: words(1)},
			impl.Node{Kind: impl.OpXor, A: 2, B: run, Sort: words(1)},
			impl.Node{Kind: impl.OpXor, A: run, B: 2, Sort: words(1)},
			impl.Node{Kind: impl.OpIf, A: run, B: 2, C: 2, Sort: words(1)},
			impl.Node{Kind: impl.OpIf, A: 2, B: run, C: 2, Sort: words(1)},
			impl.Node{Kind: impl.OpIf, A: 2, B: 2, C: run, Sort: words(1)})
		last := len(nodes) - 1
		nodes = append(nodes,
			impl.Node{Kind: impl.OpNot, A: last, Sort: words(1)},
			impl.Node{Kind: impl.OpEq, A: 2, B: last + 1, Sort: words(1)},
			impl.Node{Kind: impl.OpIf, A: 2, B: 2, C: last + 2, Sort: words(1)},
			impl.Node{Kind: impl.OpAdd, A: last + 3, B: last + 3, Sort: words(1)},
			impl.Node{Kind: impl.OpNeg, A: last, Sort: words(1)},
			impl.Node{Kind: impl.OpSub, A: 2, B: last + 1, Sort: words(1)})
	}
	for node := range nodes {
		want := impl.ModelBadBind
		if node >= 2 && node < free {
			want = 0
		}
		wantCode(t, impl.Model{Nodes: nodes, Inits: []impl.Bind{{State: 0, Node: node}}}, want, "init", node)
		wantCode(t, impl.Model{Nodes: nodes, Nexts: []impl.Bind{{State: 0, Node: node}}}, 0, "next", node)
	}
}

// Of models that are made up each node is tried as the init and as the next of each state.
func TestP59BindsOfMadeUpModels(t *testing.T) {
	for _, m := range someModels() {
		free := freeNodes(m.Nodes)
		for _, state := range impl.ModelStates(m) {
			s := m.Nodes[state].Sort
			for node, n := range m.Nodes {
				tried := impl.Model{Nodes: m.Nodes, Inits: []impl.Bind{{State: state, Node: node}}}
				begins := free[node] && n.Sort.Width == s.Width && (n.Sort.Index == 0 || n.Sort.Index == s.Index)
				wantCode(t, tried, impl.ModelBadBind*flag(!begins), "init", state, node)
				tried = impl.Model{Nodes: m.Nodes, Nexts: []impl.Bind{{State: state, Node: node}}}
				wantCode(t, tried, impl.ModelBadBind*flag(n.Sort != s), "next", state, node)
			}
		}
	}
}

// A cell that is read, and an array that is compared, is made of its array, too.
func TestP59InitsOfArraysHangOnRun(t *testing.T) {
	m := impl.Model{
		Nodes: []impl.Node{
			{Kind: impl.OpConst, Sort: words(1), N: 1},
			{Kind: impl.OpInput, Sort: arrays(1, 1), Name: "i"},
			{Kind: impl.OpState, Sort: words(1), Name: "s"},
			{Kind: impl.OpRead, A: 1, B: 0, Sort: words(1)},
			{Kind: impl.OpPut, A: 1, B: 0, C: 0, Sort: arrays(1, 1)},
			{Kind: impl.OpEq, A: 4, B: 4, Sort: words(1)},
		},
		Inits: []impl.Bind{{State: 2, Node: 0}},
	}
	wantCode(t, m, 0, "a constant")
	for _, node := range []int{3, 5} {
		m.Inits[0].Node = node
		wantCode(t, m, impl.ModelBadBind, "init", node)
	}
}

// Answers are new memory, and nothing is written into an argument or behind its end.
func TestP59MemoryIsKeptApart(t *testing.T) {
	m := counterModel()
	kept := copyModel(m)
	spare := copyModel(m)
	spare.Nodes = append(spare.Nodes, impl.Node{Kind: 77})
	spare.Nodes = spare.Nodes[:len(m.Nodes)]
	states := impl.ModelStates(spare)
	inputs := impl.ModelInputs(spare)
	impl.NodeSort(spare.Nodes, impl.Node{Kind: impl.OpNot, A: 1})
	for _, l := range [][]int{states[:cap(states)], inputs[:cap(inputs)]} {
		for i := range l {
			l[i] = -5
		}
	}
	if !sameModel(spare, kept) || spare.Nodes[:len(m.Nodes)+1][len(m.Nodes)].Kind != 77 {
		t.Fatal("an argument was written into")
	}
	if !slices.Equal(impl.ModelStates(spare), []int{0, 4}) || !slices.Equal(impl.ModelInputs(spare), []int{3}) {
		t.Fatal("an answer was kept")
	}
}

package tests

import (
	"math/rand/v2"
	"slices"
	"strconv"
	"testing"

	"loop.example/leadline/impl"
)

// kindRow is what the document tells of a kind: its word in a text, how many parts it has, and whether it makes one bit of words.
type kindRow struct {
	kind  int
	word  string
	parts int
	bit   bool
}

func kindRows() []kindRow {
	return []kindRow{
		{impl.OpNot, "not", 1, false}, {impl.OpNeg, "neg", 1, false},
		{impl.OpAny, "any", 1, true}, {impl.OpAll, "all", 1, true}, {impl.OpOdd, "odd", 1, true},
		{impl.OpAnd, "and", 2, false}, {impl.OpOr, "or", 2, false}, {impl.OpXor, "xor", 2, false},
		{impl.OpAdd, "add", 2, false}, {impl.OpSub, "sub", 2, false}, {impl.OpMul, "mul", 2, false},
		{impl.OpDiv, "div", 2, false}, {impl.OpRem, "rem", 2, false},
		{impl.OpSdiv, "sdiv", 2, false}, {impl.OpSrem, "srem", 2, false},
		{impl.OpShl, "shl", 2, false}, {impl.OpShr, "shr", 2, false}, {impl.OpSar, "sar", 2, false},
		{impl.OpRol, "rol", 2, false}, {impl.OpRor, "ror", 2, false},
		{impl.OpEq, "eq", 2, true}, {impl.OpLess, "less", 2, true}, {impl.OpSless, "sless", 2, true},
		{impl.OpMost, "most", 2, true}, {impl.OpSmost, "smost", 2, true},
		{impl.OpCarry, "carry", 2, true}, {impl.OpSover, "sover", 2, true}, {impl.OpMover, "mover", 2, true},
		{impl.OpJoin, "join", 2, false}, {impl.OpSlice, "slice", 1, false},
		{impl.OpZext, "zext", 1, false}, {impl.OpSext, "sext", 1, false},
		{impl.OpIf, "if", 3, false}, {impl.OpConst, "const", 0, false},
		{impl.OpInput, "input", 0, false}, {impl.OpState, "state", 0, false},
		{impl.OpRead, "read", 2, false}, {impl.OpPut, "put", 3, false},
	}
}

func rowOf(kind int) kindRow {
	for _, row := range kindRows() {
		if row.kind == kind {
			return row
		}
	}
	return kindRow{}
}

// words is the sort of words of a width.
func words(w int) impl.Sort { return impl.Sort{Width: w} }

// arrays is the sort of arrays of 2^i words of a width.
func arrays(i int, w int) impl.Sort { return impl.Sort{Index: i, Width: w} }

// allSorts are the sorts that there are.
func allSorts() []impl.Sort {
	var l []impl.Sort
	for i := range impl.IndexMax + 1 {
		for _, w := range allWidths() {
			l = append(l, arrays(i, w))
		}
	}
	return l
}

// partNodes are nodes of these sorts, of which only the sorts are looked at.
func partNodes(sorts ...impl.Sort) []impl.Node {
	var l []impl.Node
	for i, s := range sorts {
		l = append(l, impl.Node{Kind: impl.OpInput, Sort: s, Name: "p" + strconv.Itoa(i)})
	}
	return l
}

// wantSort is what the document tells of the sort of a node whose fields are as they should be.
func wantSort(l []impl.Node, n impl.Node) (impl.Sort, bool) {
	row := rowOf(n.Kind)
	var s [3]impl.Sort
	for i, part := range []int{n.A, n.B, n.C}[:row.parts] {
		s[i] = l[part].Sort
	}
	plain := s[0].Index == 0 && s[1].Index == 0
	cell := s[0].Index > 0 && s[1].Index == 0 && s[1].Width == s[0].Index
	switch n.Kind {
	case impl.OpInput, impl.OpState:
		return n.Sort, true
	case impl.OpConst:
		return n.Sort, n.Sort.Index == 0 && n.N >= 0 && n.N < power(n.Sort.Width)
	case impl.OpIf:
		return s[1], s[0].Index == 0 && s[0].Width == 1 && s[1].Index == s[2].Index && s[1].Width == s[2].Width
	case impl.OpEq:
		return words(1), s[0].Index == s[1].Index && s[0].Width == s[1].Width
	case impl.OpRead:
		return words(s[0].Width), cell
	case impl.OpPut:
		return s[0], cell && s[2].Index == 0 && s[2].Width == s[0].Width
	case impl.OpJoin:
		return words(s[0].Width + s[1].Width), plain && s[0].Width+s[1].Width <= 16
	case impl.OpSlice:
		return words(n.N - n.M + 1), plain && n.M >= 0 && n.M <= n.N && n.N < s[0].Width
	case impl.OpZext, impl.OpSext:
		return words(s[0].Width + n.N), plain && n.N >= 0 && n.N <= 16-s[0].Width
	}
	if row.bit {
		return words(1), plain && (row.parts == 1 || s[0].Width == s[1].Width)
	}
	return words(s[0].Width), plain && (row.parts == 1 || s[0].Width == s[1].Width)
}

// checkSort holds NodeSort to what the document tells.
func checkSort(t *testing.T, l []impl.Node, n impl.Node) {
	t.Helper()
	want, good := wantSort(l, n)
	if !good {
		want = impl.Sort{}
	}
	if s, ok := impl.NodeSort(l, n); s != want || ok != good {
		t.Fatal("sort of", n, "behind", l, "is", s, ok, "want", want, good)
	}
}

func wantNoSort(t *testing.T, l []impl.Node, n impl.Node, what ...any) {
	t.Helper()
	if s, ok := impl.NodeSort(l, n); ok || s != (impl.Sort{}) {
		t.Fatal(append([]any{"a sort", s, ok, "of", n}, what...)...)
	}
}

// rightNodes is a list with nodes of all kinds; each has the sort that the document tells by those ahead of it.
func rightNodes() []impl.Node {
	l := []impl.Node{
		{Kind: impl.OpState, Sort: words(3), Name: "x"},
		{Kind: impl.OpInput, Sort: words(1), Name: "go"},
		{Kind: impl.OpState, Sort: arrays(1, 2), Name: "mem"},
		{Kind: impl.OpConst, Sort: words(3), N: 7},
		{Kind: impl.OpConst, Sort: words(1), N: 1},
		{Kind: impl.OpConst, Sort: words(2), N: 2},
	}
	for _, row := range kindRows() {
		switch {
		case row.kind == impl.OpRead:
			l = append(l, impl.Node{Kind: row.kind, A: 2, B: 1, Sort: words(2)})
		case row.kind == impl.OpPut:
			l = append(l, impl.Node{Kind: row.kind, A: 2, B: 1, C: 5, Sort: arrays(1, 2)})
		case row.kind == impl.OpIf:
			l = append(l, impl.Node{Kind: row.kind, A: 1, B: 3, C: 3, Sort: words(3)})
		case row.kind == impl.OpSlice:
			l = append(l, impl.Node{Kind: row.kind, A: 3, N: 2, M: 1, Sort: words(2)})
		case row.kind == impl.OpJoin:
			l = append(l, impl.Node{Kind: row.kind, A: 3, B: 5, Sort: words(5)})
		case row.kind == impl.OpZext || row.kind == impl.OpSext:
			l = append(l, impl.Node{Kind: row.kind, A: 3, N: 13, Sort: words(16)})
		case row.parts > 0:
			n := impl.Node{Kind: row.kind, A: 3, Sort: words(3)}
			if row.parts == 2 {
				n.B = 3
			}
			if row.bit {
				n.Sort = words(1)
			}
			l = append(l, n)
		}
	}
	return l
}

// counterModel is a counter that stops at a wall, with an array beside it: a model with entries in all its lists.
func counterModel() impl.Model {
	return impl.Model{
		Nodes: []impl.Node{
			{Kind: impl.OpState, Sort: words(3), Name: "x"},
			{Kind: impl.OpConst, Sort: words(3), N: 0},
			{Kind: impl.OpConst, Sort: words(3), N: 5},
			{Kind: impl.OpInput, Sort: words(1), Name: "go"},
			{Kind: impl.OpState, Sort: arrays(1, 2), Name: "mem"},
			{Kind: impl.OpConst, Sort: words(2), N: 1},
			{Kind: impl.OpZext, A: 3, N: 2, Sort: words(3)},
			{Kind: impl.OpAdd, A: 0, B: 6, Sort: words(3)},
			{Kind: impl.OpEq, A: 0, B: 2, Sort: words(1)},
			{Kind: impl.OpPut, A: 4, B: 3, C: 5, Sort: arrays(1, 2)},
			{Kind: impl.OpLess, A: 0, B: 2, Sort: words(1)},
		},
		Inits: []impl.Bind{{State: 0, Node: 1}, {State: 4, Node: 5}},
		Nexts: []impl.Bind{{State: 4, Node: 9}, {State: 0, Node: 7}},
		Bads:  []int{8},
		Holds: []int{10, 3},
	}
}

// copyModel is a model with memory of its own, so that a test may change it.
func copyModel(m impl.Model) impl.Model {
	return impl.Model{
		Nodes: slices.Clone(m.Nodes),
		Inits: slices.Clone(m.Inits),
		Nexts: slices.Clone(m.Nexts),
		Bads:  slices.Clone(m.Bads),
		Holds: slices.Clone(m.Holds),
	}
}

// sameModel says whether two models are the same; the empty list is the nil list.
func sameModel(a impl.Model, b impl.Model) bool {
	return slices.Equal(a.Nodes, b.Nodes) && slices.Equal(a.Inits, b.Inits) && slices.Equal(a.Nexts, b.Nexts) &&
		slices.Equal(a.Bads, b.Bads) && slices.Equal(a.Holds, b.Holds)
}

func wantCode(t *testing.T, m impl.Model, code int, what ...any) {
	t.Helper()
	if got := impl.ModelCode(m); got != code {
		t.Fatal(append([]any{"code", got, "want", code, "of", m}, what...)...)
	}
	if code != 0 {
		wantNoModel(t, m)
	}
}

// wantNoModel holds the functions to the answers that they have for what is no model.
func wantNoModel(t *testing.T, m impl.Model) {
	t.Helper()
	a, b := impl.ModelBits(m)
	if a != 0 || b != 0 || len(impl.ModelStates(m)) != 0 || len(impl.ModelInputs(m)) != 0 || impl.ModelText(m) != "" {
		t.Fatal("told of what is no model", m)
	}
}

// someModels are ordinary models, and many that are made up by a fixed rule.
func someModels() []impl.Model {
	l := []impl.Model{{}, counterModel(), {Nodes: rightNodes()}}
	for seed := range uint64(400) {
		l = append(l, madeUpModel(rand.New(rand.NewPCG(seed, 2))))
	}
	return l
}

func madeUpModel(r *rand.Rand) impl.Model {
	var m impl.Model
	left := map[int]int{impl.OpState: impl.StateBitsMax, impl.OpInput: impl.InputBitsMax}
	size := r.IntN(impl.NodeMax + 1)
	for range 2000 {
		if len(m.Nodes) < size {
			m.Nodes = append(m.Nodes, madeUpNode(r, m.Nodes, left)...)
		}
	}
	addEntries(r, &m)
	return m
}

// addEntries makes up inits, nexts, bads and holds of the nodes of a model.
func addEntries(r *rand.Rand, m *impl.Model) {
	free := freeNodes(m.Nodes)
	for i, n := range m.Nodes {
		if n.Kind == impl.OpState {
			m.Inits = append(m.Inits, madeUpBind(r, m.Nodes, i, free, true)...)
			m.Nexts = append(m.Nexts, madeUpBind(r, m.Nodes, i, nil, false)...)
		}
		if n.Sort == words(1) && len(m.Bads) < r.IntN(impl.PropMax+1) {
			m.Bads = append(m.Bads, i)
		}
		if n.Sort == words(1) && len(m.Holds) < r.IntN(impl.PropMax+1) {
			m.Holds = append(m.Holds, i)
		}
	}
	r.Shuffle(len(m.Inits), func(i, j int) { m.Inits[i], m.Inits[j] = m.Inits[j], m.Inits[i] })
	r.Shuffle(len(m.Bads), func(i, j int) { m.Bads[i], m.Bads[j] = m.Bads[j], m.Bads[i] })
}

// madeUpNode is a node that may stand behind others, or none, if the one that was tried may not.
func madeUpNode(r *rand.Rand, l []impl.Node, left map[int]int) []impl.Node {
	row := kindRows()[r.IntN(len(kindRows()))]
	n := impl.Node{Kind: row.kind}
	if row.parts > 0 && len(l) == 0 {
		return nil
	}
	for _, field := range []*int{&n.A, &n.B, &n.C}[:row.parts] {
		*field = r.IntN(len(l))
	}
	switch row.kind {
	case impl.OpInput, impl.OpState:
		n.Sort = arrays(r.IntN(3), 1+r.IntN(3))
		n.Name = "n" + strconv.Itoa(len(l))
		bits := power(n.Sort.Index) * n.Sort.Width
		if bits > left[row.kind] {
			return nil
		}
		left[row.kind] -= bits
	case impl.OpConst:
		n.Sort = words(1 + r.IntN(4))
		n.N = r.IntN(power(n.Sort.Width))
	case impl.OpSlice:
		n.M = r.IntN(3)
		n.N = n.M + r.IntN(3)
	case impl.OpZext, impl.OpSext:
		n.N = r.IntN(3)
	}
	s, ok := wantSort(l, n)
	if !ok {
		return nil
	}
	n.Sort = s
	return []impl.Node{n}
}

// freeNodes are the places of nodes that hang on no state and no input.
func freeNodes(l []impl.Node) []bool {
	free := make([]bool, len(l))
	for i, n := range l {
		free[i] = n.Kind != impl.OpState && n.Kind != impl.OpInput
		for _, part := range []int{n.A, n.B, n.C}[:rowOf(n.Kind).parts] {
			free[i] = free[i] && free[part]
		}
	}
	return free
}

func madeUpBind(r *rand.Rand, l []impl.Node, state int, free []bool, each bool) []impl.Bind {
	var fits []int
	for i, n := range l {
		word := each && n.Sort == words(l[state].Sort.Width)
		if (n.Sort == l[state].Sort || word) && (free == nil || free[i]) {
			fits = append(fits, i)
		}
	}
	if len(fits) == 0 || r.IntN(4) == 0 {
		return nil
	}
	return []impl.Bind{{State: state, Node: fits[r.IntN(len(fits))]}}
}

package tests

import (
	"math/rand/v2"
	"slices"
	"strconv"
	"testing"

	"loop.example/leadline/impl"
)

// laid is a model that is folded, with what each node of the other model was laid down as, and by which of the eight rules.
type laid struct {
	impl.Model
	at    []int
	rules []int
}

// partFields are the fields of a node that are its parts.
func partFields(n *impl.Node) []*int { return []*int{&n.A, &n.B, &n.C}[:rowOf(n.Kind).parts] }

func partsOf(n impl.Node) []int { return list(n.A, n.B, n.C)[:rowOf(n.Kind).parts] }

// entriesAs are the inits, nexts, bads and holds of a model, each place being another one.
func entriesAs(m impl.Model, as func(at int) int) impl.Model {
	var out impl.Model
	for _, b := range m.Inits {
		out.Inits = append(out.Inits, impl.Bind{State: as(b.State), Node: as(b.Node)})
	}
	for _, b := range m.Nexts {
		out.Nexts = append(out.Nexts, impl.Bind{State: as(b.State), Node: as(b.Node)})
	}
	for _, at := range m.Bads {
		out.Bads = append(out.Bads, as(at))
	}
	for _, at := range m.Holds {
		out.Holds = append(out.Holds, as(at))
	}
	return out
}

// wantFold is what the document tells of a model that is folded.
func wantFold(t *testing.T, m impl.Model) laid {
	t.Helper()
	var l laid
	for _, n := range m.Nodes {
		for _, field := range partFields(&n) {
			*field = l.at[*field]
		}
		at, rule := l.lay(t, n)
		l.at, l.rules = append(l.at, at), append(l.rules, rule)
	}
	nodes := l.Nodes
	l.Model = entriesAs(m, func(at int) int { return l.at[at] })
	l.Nodes = nodes
	return l
}

// lay is where a node is laid down, its parts being laid down, and the rule that fits it first.
func (l *laid) lay(t *testing.T, n impl.Node) (int, int) {
	t.Helper()
	parts := partsOf(n)
	if len(parts) > 0 && !slices.ContainsFunc(parts, func(at int) bool { return l.Nodes[at].Kind != impl.OpConst }) {
		return l.constant(n.Sort.Width, wantCells(t, l.Nodes, n, l.constants())[0]), 1
	}
	for i, rule := range []func(n impl.Node) int{l.choice, l.reading, l.single, l.alike, l.besideConstant, l.byNothing} {
		if at := rule(n); at >= 0 {
			return at, i + 2
		}
	}
	if slices.Contains(evenKinds(), n.Kind) && n.B < n.A {
		n.A, n.B = n.B, n.A
	}
	return l.put(n), 8
}

// evenKinds are those whose parts are put in the order of their places.
func evenKinds() []int {
	return list(impl.OpAnd, impl.OpOr, impl.OpXor, impl.OpAdd, impl.OpMul, impl.OpEq, impl.OpCarry, impl.OpSover, impl.OpMover)
}

// constants are the values of the nodes that are constants.
func (l *laid) constants() []impl.Value {
	var all []impl.Value
	for _, n := range l.Nodes {
		all = append(all, cells(n.N))
	}
	return all
}

func (l *laid) put(n impl.Node) int {
	if at := slices.Index(l.Nodes, n); at >= 0 {
		return at
	}
	l.Nodes = append(l.Nodes, n)
	return len(l.Nodes) - 1
}

func constNode(w int, v int) impl.Node { return impl.Node{Kind: impl.OpConst, N: v, Sort: words(w)} }

func (l *laid) constant(w int, v int) int { return l.put(constNode(w, v)) }

// is says whether a node is a constant of a value.
func (l *laid) is(at int, v int) bool { return l.Nodes[at].Kind == impl.OpConst && l.Nodes[at].N == v }

// The rules tell where a node is laid down, or -1, if they do not fit it.

func (l *laid) choice(n impl.Node) int {
	switch {
	case n.Kind != impl.OpIf:
		return -1
	case l.is(n.A, 1):
		return n.B
	case l.is(n.A, 0):
		return n.C
	case n.B == n.C:
		return n.B
	}
	return -1
}

func (l *laid) reading(n impl.Node) int {
	if n.Kind == impl.OpRead && l.Nodes[n.A].Kind == impl.OpPut && l.Nodes[n.A].B == n.B {
		return l.Nodes[n.A].C
	}
	return -1
}

func (l *laid) single(n impl.Node) int {
	if rowOf(n.Kind).parts != 1 {
		return -1
	}
	x := l.Nodes[n.A]
	switch {
	case n.Kind == impl.OpNot && x.Kind == impl.OpNot, n.Kind == impl.OpNeg && x.Kind == impl.OpNeg:
		return x.A
	case n.Kind == impl.OpSlice && n.M == 0 && n.N == x.Sort.Width-1:
		return n.A
	case (n.Kind == impl.OpZext || n.Kind == impl.OpSext) && n.N == 0:
		return n.A
	}
	return -1
}

func (l *laid) alike(n impl.Node) int {
	if rowOf(n.Kind).parts != 2 || n.A != n.B {
		return -1
	}
	switch n.Kind {
	case impl.OpAnd, impl.OpOr:
		return n.A
	case impl.OpXor, impl.OpSub:
		return l.constant(n.Sort.Width, 0)
	case impl.OpEq, impl.OpMost, impl.OpSmost:
		return l.constant(1, 1)
	case impl.OpLess, impl.OpSless:
		return l.constant(1, 0)
	}
	return -1
}

func (l *laid) besideConstant(n impl.Node) int {
	if rowOf(n.Kind).parts != 2 {
		return -1
	}
	for _, pair := range [][2]int{{n.A, n.B}, {n.B, n.A}} {
		top := power(l.Nodes[pair[0]].Sort.Width) - 1
		zero, one, all := l.is(pair[0], 0), l.is(pair[0], 1), l.is(pair[0], top)
		switch {
		case n.Kind == impl.OpAnd && zero, n.Kind == impl.OpOr && all, n.Kind == impl.OpMul && zero:
			return pair[0]
		case n.Kind == impl.OpAnd && all, n.Kind == impl.OpOr && zero, n.Kind == impl.OpMul && one:
			return pair[1]
		case n.Kind == impl.OpXor && zero, n.Kind == impl.OpAdd && zero:
			return pair[1]
		}
	}
	return -1
}

func (l *laid) byNothing(n impl.Node) int {
	kinds := list(impl.OpSub, impl.OpShl, impl.OpShr, impl.OpSar, impl.OpRol, impl.OpRor)
	if slices.Contains(kinds, n.Kind) && l.is(n.B, 0) {
		return n.A
	}
	return -1
}

// checkFold holds ModelFold to what the document tells of a model; it tells what that is.
func checkFold(t *testing.T, m impl.Model) laid {
	t.Helper()
	want := wantFold(t, m)
	got := impl.ModelFold(m)
	if !sameModel(got, want.Model) {
		t.Fatal("folded", got, "want", want.Model, "of", m)
	}
	wantCode(t, got, 0, "folded", m)
	return want
}

// checkFoldText holds ModelFold to what a test tells of the model that a text is.
func checkFoldText(t *testing.T, text string, want string) laid {
	t.Helper()
	m := read(t, text)
	if got := impl.ModelText(impl.ModelFold(m)); got != want {
		t.Fatalf("%q is folded to %q, want %q", text, got, want)
	}
	return checkFold(t, m)
}

// foldableModel is made up of few sorts, with constants and nodes that are alike, so that much of it is folded. It has at most 5 bits of states, and 2 of inputs.
func foldableModel(r *rand.Rand) impl.Model {
	w := 1 + r.IntN(2)
	m := impl.Model{Nodes: []impl.Node{
		{Kind: impl.OpState, Sort: words(w), Name: "x"},
		{Kind: impl.OpInput, Sort: words(1), Name: "go"},
	}}
	add := func(n impl.Node) {
		if r.IntN(3) > 0 {
			m.Nodes = append(m.Nodes, n)
		}
	}
	add(impl.Node{Kind: impl.OpState, Sort: arrays(1+r.IntN(3-w), 1), Name: "mem"})
	for _, width := range slices.Compact(list(1, w)) {
		for _, v := range slices.Compact(list(0, 1, power(width)-1)) {
			add(constNode(width, v))
		}
	}
	add(impl.Node{Kind: impl.OpState, Sort: words(1), Name: "y"})
	add(impl.Node{Kind: impl.OpInput, Sort: words(1), Name: "up"})
	size := len(m.Nodes) + r.IntN(40)
	for range 3000 {
		if len(m.Nodes) < size {
			m.Nodes = append(m.Nodes, foldableNode(r, m.Nodes)...)
		}
	}
	addEntries(r, &m)
	return m
}

// foldableNode is a node with parts that may stand behind others, or none, if the one that was tried may not.
func foldableNode(r *rand.Rand, l []impl.Node) []impl.Node {
	n := impl.Node{Kind: kindRows()[r.IntN(len(kindRows()))].kind}
	if r.IntN(6) == 0 {
		n.Kind = list(impl.OpRead, impl.OpPut)[r.IntN(2)]
	}
	parts := partFields(&n)
	for i, field := range parts {
		*field = r.IntN(len(l))
		if i > 0 && r.IntN(3) == 0 {
			*field = *parts[i-1]
		}
	}
	switch n.Kind {
	case impl.OpSlice:
		n.M = r.IntN(2) * r.IntN(2)
		n.N = n.M + r.IntN(2)
	case impl.OpZext, impl.OpSext:
		n.N = r.IntN(2)
	case impl.OpRead, impl.OpPut:
		indexArray(r, l, &n)
	case impl.OpNot, impl.OpNeg:
		if at := slices.IndexFunc(l, func(o impl.Node) bool { return o.Kind == n.Kind }); at >= 0 && r.IntN(2) == 0 {
			n.A = at
		}
	}
	s, ok := wantSort(l, n)
	// Few widths are more often met again.
	if len(parts) == 0 || !ok || s.Width > 3 {
		return nil
	}
	n.Sort = s
	return []impl.Node{n}
}

// indexArray makes the parts of a node that looks at a cell an array, if there is one, and an index of it, often the one by which it was put.
func indexArray(r *rand.Rand, l []impl.Node, n *impl.Node) {
	at := slices.IndexFunc(l, func(o impl.Node) bool { return o.Sort.Index > 0 })
	if at < 0 {
		return
	}
	n.A = anyOf(r, l, l[at].Sort, at)
	n.B = anyOf(r, l, words(l[n.A].Sort.Index), n.B)
	if n.Kind == impl.OpPut {
		n.C = anyOf(r, l, words(l[n.A].Sort.Width), n.C)
	} else if l[n.A].Kind == impl.OpPut && r.IntN(2) == 0 {
		n.B = l[n.A].B
	}
}

// anyOf is the place of some node of a sort, or another place, if there is none.
func anyOf(r *rand.Rand, l []impl.Node, s impl.Sort, other int) int {
	var places []int
	for i, n := range l {
		if n.Sort == s {
			places = append(places, i)
		}
	}
	if len(places) == 0 {
		return other
	}
	return places[r.IntN(len(places))]
}

func foldableModels(count int) []impl.Model {
	var l []impl.Model
	for seed := range uint64(count) {
		l = append(l, foldableModel(rand.New(rand.NewPCG(seed, 9))))
	}
	return l
}

// wantKept are the places of the nodes that should matter.
func wantKept(m impl.Model) []int {
	matters := map[int]bool{}
	for _, at := range append(slices.Clone(m.Bads), m.Holds...) {
		matters[at] = true
	}
	// Each round but the last brings in a node.
	for size := -1; size < len(matters); {
		size = len(matters)
		for i, n := range m.Nodes {
			if !matters[i] {
				continue
			}
			for _, at := range partsOf(n) {
				matters[at] = true
			}
			for _, b := range append(slices.Clone(m.Inits), m.Nexts...) {
				if b.State == i {
					matters[b.Node] = true
				}
			}
		}
	}
	var l []int
	for i := range m.Nodes {
		if matters[i] {
			l = append(l, i)
		}
	}
	return l
}

// wantCone is the model of just the nodes that should matter.
func wantCone(m impl.Model) impl.Model {
	kept := wantKept(m)
	as := func(at int) int { return slices.Index(kept, at) }
	whole := copyModel(m)
	gone := func(b impl.Bind) bool { return as(b.State) < 0 }
	whole.Inits = slices.DeleteFunc(whole.Inits, gone)
	whole.Nexts = slices.DeleteFunc(whole.Nexts, gone)
	cone := entriesAs(whole, as)
	for _, at := range kept {
		n := m.Nodes[at]
		for _, field := range partFields(&n) {
			*field = as(*field)
		}
		cone.Nodes = append(cone.Nodes, n)
	}
	return cone
}

// checkCone holds ModelKept and ModelCone to what the document tells of a model; it tells the cone.
func checkCone(t *testing.T, m impl.Model) impl.Model {
	t.Helper()
	if got := impl.ModelKept(m); !slices.Equal(got, wantKept(m)) {
		t.Fatal("kept", got, "want", wantKept(m), "of", m)
	}
	want := wantCone(m)
	if got := impl.ModelCone(m); !sameModel(got, want) {
		t.Fatal("cut to", got, "want", want, "of", m)
	}
	wantCode(t, want, 0, "cut", m)
	return want
}

// checkConeText holds ModelKept and ModelCone to what a test tells of the model that a text is.
func checkConeText(t *testing.T, text string, kept []int, want string) {
	t.Helper()
	m := read(t, text)
	if got := impl.ModelKept(m); !slices.Equal(got, kept) {
		t.Fatal("kept", got, "want", kept, "of", strconv.Quote(text))
	}
	if got := impl.ModelText(impl.ModelCone(m)); got != want {
		t.Fatalf("%q is cut to %q, want %q", text, got, want)
	}
	checkCone(t, m)
}

// mattersOnly are values for all nodes of a kind: those of what is kept are told, the others are as they were.
func mattersOnly(m impl.Model, kept []int, kind int, l []impl.Value, told []impl.Value) []impl.Value {
	out := copyValues(l)
	for i, at := range placesOf(m, kind) {
		if slices.Contains(kept, at) {
			out[i], told = told[0], told[1:]
		}
	}
	return out
}

// wantLift is what the document tells of a trace of the cone that is lifted.
func wantLift(t *testing.T, m impl.Model, tr impl.Trace) impl.Trace {
	t.Helper()
	cone, kept := wantCone(m), wantKept(m)
	var out impl.Trace
	state := bound(m, m.Inits, allAt(t, m, 0, 0), least)
	for i := range tr.States {
		state = mattersOnly(m, kept, impl.OpState, state, valuesOf(cone, impl.OpState, tr.States[i]))
		input := mattersOnly(m, kept, impl.OpInput, filled(m, impl.OpInput, least), valuesOf(cone, impl.OpInput, tr.Inputs[i]))
		out.States = append(out.States, wantNumber(m, impl.OpState, state))
		out.Inputs = append(out.Inputs, wantNumber(m, impl.OpInput, input))
		state = bound(m, m.Nexts, wantAll(t, m, state, input), least)
	}
	return out
}

// cutNumber is the number of what is kept of the values that a number tells for the nodes of a kind.
func cutNumber(m impl.Model, cone impl.Model, kept []int, kind int, number int) int {
	var l []impl.Value
	for i, v := range valuesOf(m, kind, number) {
		if slices.Contains(kept, placesOf(m, kind)[i]) {
			l = append(l, v)
		}
	}
	return wantNumber(cone, kind, l)
}

func sameTrace(a impl.Trace, b impl.Trace) bool {
	return slices.Equal(a.States, b.States) && slices.Equal(a.Inputs, b.Inputs)
}

// checkLift holds TraceLift to what the document tells of a trace of the cone; it tells the trace that is lifted.
func checkLift(t *testing.T, m impl.Model, tr impl.Trace) impl.Trace {
	t.Helper()
	want := wantLift(t, m, tr)
	got, ok := impl.TraceLift(m, tr)
	if !ok || !sameTrace(got, want) {
		t.Fatal("lifted", got, ok, "want", want, "of", tr, m)
	}
	return got
}

// wantNoLift holds TraceLift to what it tells where there is nothing to lift.
func wantNoLift(t *testing.T, m impl.Model, tr impl.Trace, what ...any) {
	t.Helper()
	if got, ok := impl.TraceLift(m, tr); ok || len(got.States) != 0 || len(got.Inputs) != 0 {
		t.Fatal(append([]any{"lifted", got, ok, "of", tr, m}, what...)...)
	}
}

// someTrace is a trace that has not TraceShape, of numbers that are made up.
func someTrace(r *rand.Rand, m impl.Model, moments int) impl.Trace {
	tr := impl.Trace{Inputs: someInputs(r, m, moments)}
	for range moments {
		tr.States = append(tr.States, r.IntN(power(bitCount(m, impl.OpState))))
	}
	return tr
}

// search looks for witnesses of a model by the values of all its nodes at all moments.
type search struct {
	grid
	begins []bool
	// What a moment's number tells: whether all holds, whether also a bad is met, and what a next binds of what follows.
	holds, bad []bool
	next       []int
	boundBits  int
}

func searchOf(t *testing.T, m impl.Model) search {
	t.Helper()
	f := search{grid: gridOf(t, m)}
	f.boundBits = wantNumber(m, impl.OpState, boundOnly(m, filled(m, impl.OpState, greatest)))
	for state := range power(f.stateBits) {
		f.begins = append(f.begins, wantBegin(t, m, state))
	}
	for _, all := range f.all {
		holds := len(ones(all, m.Holds)) == len(m.Holds)
		f.holds = append(f.holds, holds)
		f.bad = append(f.bad, holds && len(ones(all, m.Bads)) > 0)
		f.next = append(f.next, wantNumber(m, impl.OpState, bound(m, m.Nexts, all, least)))
	}
	return f
}

// boundOnly are a state's values, those that no next binds being 0.
func boundOnly(m impl.Model, s []impl.Value) []impl.Value {
	zero := filled(m, impl.OpState, least)
	for i, at := range placesOf(m, impl.OpState) {
		if !isBound(m.Nexts, at) {
			s[i] = zero[i]
		}
	}
	return s
}

// moments are the numbers of the moments at a state, by their inputs.
func (f search) moments(state int) []int {
	var l []int
	for input := range power(f.vars - f.stateBits) {
		l = append(l, state+input*power(f.stateBits))
	}
	return l
}

// ahead are the first moment at a state behind which the least state of a set follows that may, and that state; -1 and -1, if there is none.
func (f search) ahead(state int, set []bool) (int, int) {
	for _, n := range f.moments(state) {
		for after := range set {
			if f.holds[n] && set[after] && after&f.boundBits == f.next[n] {
				return n, after
			}
		}
	}
	return -1, -1
}

// least is the least witness, and whether there is one.
func (f search) least() (impl.Trace, bool) {
	// back[k] are the states from which a bad is met in k steps.
	var back [][]bool
	for k := range power(f.stateBits) {
		set := make([]bool, power(f.stateBits))
		for state := range set {
			if k == 0 {
				set[state] = slices.ContainsFunc(f.moments(state), func(n int) bool { return f.bad[n] })
			} else if n, _ := f.ahead(state, back[k-1]); n >= 0 {
				set[state] = true
			}
		}
		back = append(back, set)
		for state := range set {
			if set[state] && f.begins[state] {
				return f.from(state, back), true
			}
		}
	}
	return impl.Trace{}, false
}

// from is the least trace that begins in a state and meets a bad behind as many steps as the list of sets tells.
func (f search) from(state int, back [][]bool) impl.Trace {
	var tr impl.Trace
	for k := len(back) - 1; k >= 0; k-- {
		tr.States = append(tr.States, state)
		if k == 0 {
			l := f.moments(state)
			tr.Inputs = append(tr.Inputs, slices.IndexFunc(l, func(n int) bool { return f.bad[n] }))
			break
		}
		n, after := f.ahead(state, back[k-1])
		tr.Inputs = append(tr.Inputs, n/power(f.stateBits))
		state = after
	}
	return tr
}

package tests

import (
	"math/rand/v2"
	"slices"
	"testing"

	"loop.example/leadline/impl"
)

func list(l ...int) []int { return l }

// repeated is a number that many times.
func repeated(v int, count int) []int {
	var l []int
	for range count {
		l = append(l, v)
	}
	return l
}

func copyTrace(tr impl.Trace) impl.Trace {
	return impl.Trace{States: slices.Clone(tr.States), Inputs: slices.Clone(tr.Inputs)}
}

// wantTrace holds both functions that look at a trace to what they tell of it.
func wantTrace(t *testing.T, m impl.Model, tr impl.Trace, code int, bad int, what ...any) {
	t.Helper()
	if got := impl.TraceCode(m, tr); got != code {
		t.Fatal(append([]any{"code", got, "want", code, "of", tr, m}, what...)...)
	}
	if got := impl.TraceBad(m, tr); got != bad {
		t.Fatal(append([]any{"bad", got, "want", bad, "of", tr, m}, what...)...)
	}
}

// wantNoRun holds TraceRun to what it tells of what cannot be played.
func wantNoRun(t *testing.T, m impl.Model, state int, inputs []int, what ...any) {
	t.Helper()
	if tr, ok := impl.TraceRun(m, state, inputs); ok || len(tr.States) != 0 || len(tr.Inputs) != 0 {
		t.Fatal(append([]any{"played", tr, ok, "from", state, inputs, m}, what...)...)
	}
}

// run is what TraceRun plays, which must be something.
func run(t *testing.T, m impl.Model, state int, inputs ...int) impl.Trace {
	t.Helper()
	tr, ok := impl.TraceRun(m, state, inputs)
	if !ok || !slices.Equal(tr.Inputs, inputs) || len(tr.States) != len(inputs) || tr.States[0] != state {
		t.Fatal("played", tr, ok, "from", state, inputs, m)
	}
	return tr
}

// valuesOf are the values that a number tells for the nodes of a kind, bit by bit.
func valuesOf(m impl.Model, kind int, number int) []impl.Value {
	bits := bitsOf(bitCount(m, kind), number)
	l := filled(m, kind, least)
	for i, at := range placesOf(m, kind) {
		width := m.Nodes[at].Sort.Width
		for j := range l[i].Cells {
			l[i].Cells[j] = bitsWord(bits[:width])
			bits = bits[width:]
		}
	}
	return l
}

// allAt are the values of all nodes at numbers of a state and an input.
func allAt(t *testing.T, m impl.Model, state int, input int) []impl.Value {
	t.Helper()
	return wantAll(t, m, valuesOf(m, impl.OpState, state), valuesOf(m, impl.OpInput, input))
}

// wantNext is the number of the state that should be played behind a moment.
func wantNext(t *testing.T, m impl.Model, state int, input int) int {
	t.Helper()
	return wantNumber(m, impl.OpState, bound(m, m.Nexts, allAt(t, m, state, input), least))
}

// wantStep says whether a state may follow a moment: in what is bound it is what is told, and in all else anything.
func wantStep(t *testing.T, m impl.Model, state int, input int, after int) bool {
	t.Helper()
	all, l := allAt(t, m, state, input), valuesOf(m, impl.OpState, after)
	for i, at := range placesOf(m, impl.OpState) {
		for _, b := range m.Nexts {
			if b.State == at && !sameValue(l[i], all[b.Node]) {
				return false
			}
		}
	}
	return true
}

// wantBegin says whether a run may begin in a state.
func wantBegin(t *testing.T, m impl.Model, state int) bool {
	t.Helper()
	s := valuesOf(m, impl.OpState, state)
	all := allAt(t, m, state, 0)
	first := bound(m, m.Inits, all, least)
	for i, at := range placesOf(m, impl.OpState) {
		if isBound(m.Inits, at) && !sameValue(s[i], first[i]) {
			return false
		}
	}
	return true
}

// ones are the places of a list whose nodes are 1.
func ones(all []impl.Value, places []int) []int {
	var l []int
	for i, at := range places {
		if all[at].Cells[0] == 1 {
			l = append(l, i)
		}
	}
	return l
}

// wantOf is what the document tells of the code and the bad of a trace that has its shape.
func wantOf(t *testing.T, m impl.Model, tr impl.Trace) (int, int) {
	t.Helper()
	if !wantBegin(t, m, tr.States[0]) {
		return impl.TraceInit, -1
	}
	last := len(tr.States) - 1
	for i := range last {
		if !wantStep(t, m, tr.States[i], tr.Inputs[i], tr.States[i+1]) {
			return impl.TraceStep, -1
		}
	}
	for i := range last + 1 {
		if len(ones(allAt(t, m, tr.States[i], tr.Inputs[i]), m.Holds)) < len(m.Holds) {
			return impl.TraceHold, -1
		}
	}
	met := ones(allAt(t, m, tr.States[last], tr.Inputs[last]), m.Bads)
	if len(met) == 0 {
		return impl.TraceNoBad, -1
	}
	return 0, met[0]
}

// checkTrace holds a trace that has its shape to what the document tells of it; it tells its code.
func checkTrace(t *testing.T, m impl.Model, tr impl.Trace) int {
	t.Helper()
	code, bad := wantOf(t, m, tr)
	wantTrace(t, m, tr, code, bad)
	return code
}

// checkRun holds a run to what the document tells of it, moment by moment; it tells its code.
func checkRun(t *testing.T, m impl.Model, state int, inputs ...int) int {
	t.Helper()
	tr := run(t, m, state, inputs...)
	for i := range len(inputs) - 1 {
		wantInt(t, tr.States[i+1], wantNext(t, m, tr.States[i], inputs[i]), "the state behind moment", i, "of", tr, m)
	}
	return checkTrace(t, m, tr)
}

// beginning is the number of a state in which a run may begin; what is not bound is told by a rule.
func beginning(t *testing.T, m impl.Model, rule func(w int) int) int {
	t.Helper()
	return wantNumber(m, impl.OpState, bound(m, m.Inits, allAt(t, m, 0, 0), rule))
}

// someInputs are that many numbers of inputs.
func someInputs(r *rand.Rand, m impl.Model, count int) []int {
	var l []int
	for range count {
		l = append(l, r.IntN(power(bitCount(m, impl.OpInput))))
	}
	return l
}

// gateModel has a fault of its own for each code: x counts up from 0, and inputs tell what holds (bit 0) and what is bad (bit 1).
func gateModel(t *testing.T) impl.Model {
	t.Helper()
	return read(t, "0 state 3 x\n1 const 3 0\n2 const 3 1\n3 add 0 2\n4 input 1 holds\n5 input 1 bad\ninit 0 1\nnext 0 3\nhold 4\nbad 5\n")
}

// ringModel counts by an input, and keeps what it counted in an array: x is bits 0 and 1, the cells are bits 2 and 3, 4 and 5.
func ringModel(t *testing.T, more string) impl.Model {
	t.Helper()
	return read(t, "0 state 2 x\n1 input 1 go\n2 state 1:2 mem\n3 const 2 0\n4 const 2 3\n5 zext 1 1\n6 add 0 5\n7 put 2 1 0\n8 read 2 1\n9 eq 8 4\n10 eq 0 4\n"+
		"init 0 3\ninit 2 4\nnext 2 7\nnext 0 6\n"+more)
}

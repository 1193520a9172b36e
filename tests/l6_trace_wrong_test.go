package tests

import (
	"slices"
	"testing"

	"loop.example/leadline/impl"
)

// witnessModel is a model with entries in all its lists, and witnessTrace a witness of it.
func witnessModel() impl.Model {
	m := counterModel()
	// The counter has to go on; that it is below the wall where it is bad need not hold.
	m.Holds = []int{3, 3}
	return m
}

func witnessTrace() impl.Trace {
	return impl.Trace{States: list(40, 41, 42, 43, 44, 45), Inputs: list(1, 1, 1, 1, 1, 1)}
}

func TestP20ModelsThatAreNotOk(t *testing.T) {
	base, tr := witnessModel(), witnessTrace()
	wantTrace(t, base, tr, 0, 0)
	if !slices.Equal(run(t, base, 40, tr.Inputs...).States, tr.States) {
		t.Fatal("the model without a flaw")
	}
	for _, f := range flaws() {
		m := copyModel(base)
		f.make(&m)
		wantCode(t, m, f.code, f.what)
		wantTrace(t, m, tr, impl.TraceShape, -1, f.what)
		wantTrace(t, m, impl.Trace{States: list(0), Inputs: list(0)}, impl.TraceShape, -1, f.what)
		wantTrace(t, m, impl.Trace{}, impl.TraceShape, -1, f.what)
		wantNoRun(t, m, 40, tr.Inputs, f.what)
		wantNoRun(t, m, 0, list(0), f.what)
		wantNoRun(t, m, 0, nil, f.what)
		wantNoRun(t, m, -1, list(-1), f.what)
	}
}

// A model that is too big has no numbers, small ones neither.
func TestP20ModelsThatAreTooBig(t *testing.T) {
	for _, sorts := range [][2]impl.Sort{{words(9), words(1)}, {words(1), words(6)}, {arrays(2, 16), words(1)}, {words(1), arrays(2, 16)}} {
		m := impl.Model{Nodes: []impl.Node{
			{Kind: impl.OpState, Sort: sorts[0], Name: "x"},
			{Kind: impl.OpInput, Sort: sorts[1], Name: "i"},
			{Kind: impl.OpConst, Sort: words(1), N: 1},
		}, Bads: []int{2}}
		wantTrace(t, m, impl.Trace{States: list(0), Inputs: list(0)}, impl.TraceShape, -1, sorts)
		wantNoRun(t, m, 0, list(0), sorts)
	}
}

func TestP20NotAsManyInputsAsStates(t *testing.T) {
	m, tr := witnessModel(), witnessTrace()
	for states := range 7 {
		for inputs := range 9 {
			cut := impl.Trace{States: tr.States[:states], Inputs: append(slices.Clone(tr.Inputs), 1, 1)[:inputs]}
			code := impl.TraceShape
			if states == inputs && states > 0 {
				code = impl.TraceNoBad * flag(states < 6)
			}
			wantTrace(t, m, cut, code, -flag(code != 0), states, inputs)
		}
	}
	wantTrace(t, m, impl.Trace{}, impl.TraceShape, -1)
	wantTrace(t, m, impl.Trace{States: []int{}, Inputs: []int{}}, impl.TraceShape, -1)
	wantTrace(t, m, impl.Trace{States: list(40)}, impl.TraceShape, -1)
	wantTrace(t, m, impl.Trace{Inputs: list(1)}, impl.TraceShape, -1)
}

// wrongNumbers are no numbers of what has n bits.
func wrongNumbers(n int) []int {
	return append(farNumbers(), power(n), power(n)+1, 2*power(n)-1, 2*power(n), -power(n), 1-2*power(n))
}

// One number that is none, at any moment, is enough; it comes ahead of all other faults.
func TestP20NoNumbersOfStatesAndInputs(t *testing.T) {
	m, good := witnessModel(), witnessTrace()
	other := impl.Trace{States: list(127, 0, 5, 1, 77, 3), Inputs: list(0, 1, 0, 0, 1, 0)}
	wantTrace(t, m, other, impl.TraceInit, -1)
	for at := range 6 {
		for _, tr := range []impl.Trace{good, other} {
			for _, number := range wrongNumbers(7) {
				wrong := copyTrace(tr)
				wrong.States[at] = number
				wantTrace(t, m, wrong, impl.TraceShape, -1, "state", number, "at", at)
				wantNoRun(t, m, number, tr.Inputs, "state", number)
			}
			for _, number := range wrongNumbers(1) {
				wrong := copyTrace(tr)
				wrong.Inputs[at] = number
				wantTrace(t, m, wrong, impl.TraceShape, -1, "input", number, "at", at)
				wantNoRun(t, m, 40, wrong.Inputs, "input", number, "at", at)
				wantNoRun(t, m, 40, wrong.Inputs[at:at+1], "input", number)
			}
		}
	}
}

// The greatest numbers are met; the bits of states do not serve for inputs, nor those of inputs for states.
func TestP20GreatestNumbers(t *testing.T) {
	for _, c := range []struct {
		text           string
		states, inputs int
	}{
		{"0 state 2 x\n1 input 4 i\n2 const 1 1\nbad 2\n", 4, 16},
		{"0 state 2:2 x\n1 input 1 i\n2 const 1 1\nbad 2\n", 256, 2},
		{"0 input 2:1 x\n1 const 1 1\n2 input 1 y\nbad 1\n", 1, 32},
		{"0 state 8 x\n1 const 1 1\nbad 1\n", 256, 1},
	} {
		m := read(t, c.text)
		state, input := c.states-1, c.inputs-1
		wantTrace(t, m, impl.Trace{States: list(state, state), Inputs: list(input, input)}, 0, 0)
		wantTrace(t, m, run(t, m, state, input, input), 0, 0)
		wantTrace(t, m, impl.Trace{States: list(0, c.states), Inputs: list(0, 0)}, impl.TraceShape, -1)
		wantTrace(t, m, impl.Trace{States: list(0, 0), Inputs: list(0, c.inputs)}, impl.TraceShape, -1)
		wantNoRun(t, m, c.states, list(0))
		wantNoRun(t, m, 0, list(0, c.inputs))
	}
}

// The last input is asked for, too, though nothing is played behind it.
func TestP20NoInputsAndTooMany(t *testing.T) {
	m := witnessModel()
	wantNoRun(t, m, 40, nil)
	wantNoRun(t, m, 40, []int{})
	wantNoRun(t, m, 40, list(1, 1, 2))
	for _, count := range list(impl.TraceMax+2, impl.TraceMax+3, 1000, 100000) {
		many := repeated(1, count)
		wantNoRun(t, m, 40, many, count)
		wantNoRun(t, m, -1, many, count)
		wantTrace(t, m, impl.Trace{States: many, Inputs: many}, impl.TraceShape, -1, count)
		wantTrace(t, m, impl.Trace{States: list(40), Inputs: many}, impl.TraceShape, -1, count)
		wantTrace(t, m, impl.Trace{States: many, Inputs: list(1)}, impl.TraceShape, -1, count)
	}
}

// Nothing is kept between calls: what was wrong does not spoil what is right.
func TestP20NothingIsKept(t *testing.T) {
	m, tr := witnessModel(), witnessTrace()
	for range 3 {
		wantTrace(t, m, impl.Trace{States: list(-1), Inputs: list(1)}, impl.TraceShape, -1)
		wantNoRun(t, m, 40, list(9))
		wantTrace(t, m, tr, 0, 0)
		wantTrace(t, impl.Model{}, tr, impl.TraceShape, -1)
		if !slices.Equal(run(t, m, 40, tr.Inputs...).States, tr.States) {
			t.Fatal("played otherwise")
		}
	}
}

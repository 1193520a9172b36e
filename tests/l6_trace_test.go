package tests

import (
	"math/rand/v2"
	"slices"
	"testing"

	"loop.example/leadline/impl"
)

// P20: a run is a run. P25: what comes next is what the model says.

func TestP20Constants(t *testing.T) {
	got := list(impl.TraceMax, impl.TraceShape, impl.TraceInit, impl.TraceStep, impl.TraceHold, impl.TraceNoBad)
	if !slices.Equal(got, list(300, 1, 2, 3, 4, 5)) {
		t.Fatal("constants", got)
	}
}

// The numbers are reckoned by hand.
func TestP20RunsByHand(t *testing.T) {
	m := ringModel(t, "bad 9\nbad 10\n")
	for _, c := range []struct {
		inputs, states []int
		code, bad      int
	}{
		{list(0), list(60), 0, 0},
		{list(1), list(60), 0, 0},
		{list(1, 1), list(60, 13), impl.TraceNoBad, -1},
		{list(1, 0), list(60, 13), 0, 0},
		{list(1, 1, 0, 1), list(60, 13, 30, 26), impl.TraceNoBad, -1},
		{list(1, 1, 1, 1), list(60, 13, 30, 47), 0, 1},
		{list(1, 1, 1, 0), list(60, 13, 30, 47), 0, 0},
		{list(0, 0, 0), list(60, 48, 48), impl.TraceNoBad, -1},
		{list(1, 1, 1, 1, 1), list(60, 13, 30, 47, 60), 0, 0},
	} {
		tr := run(t, m, 60, c.inputs...)
		if !slices.Equal(tr.States, c.states) {
			t.Fatal("played", tr, "want", c.states)
		}
		wantTrace(t, m, tr, c.code, c.bad)
	}
	// From a state in which no run begins the play is the same, but no trace begins so.
	tr := run(t, m, 3, 1, 1, 0)
	if !slices.Equal(tr.States, list(3, 48, 1)) {
		t.Fatal("played", tr)
	}
	wantTrace(t, m, tr, impl.TraceInit, -1)
}

func TestP20MadeUpRuns(t *testing.T) {
	r := rand.New(rand.NewPCG(20, 1))
	codes := map[int]int{}
	for _, m := range someModels() {
		states := power(bitCount(m, impl.OpState))
		for count := range 5 {
			codes[checkRun(t, m, r.IntN(states), someInputs(r, m, count+1)...)]++
			code := checkRun(t, m, beginning(t, m, anyWord(r)), someInputs(r, m, count+1)...)
			if code == impl.TraceShape || code == impl.TraceInit || code == impl.TraceStep {
				t.Fatal("a run that begins well has code", code, m)
			}
			codes[code]++
		}
	}
	if codes[0] < 100 || codes[impl.TraceInit] < 100 || codes[impl.TraceHold] < 100 || codes[impl.TraceNoBad] < 100 {
		t.Fatal("the runs are too plain", codes)
	}
}

// By the calls of chapters 4 and 5: a run is of states and inputs, each following the one ahead.
func TestP20RunsByTheCalls(t *testing.T) {
	r := rand.New(rand.NewPCG(20, 2))
	for _, m := range someModels()[:150] {
		states := power(bitCount(m, impl.OpState))
		tr := run(t, m, r.IntN(states), someInputs(r, m, 4)...)
		for i := range tr.States {
			s, ok := impl.StateOf(m, tr.States[i])
			in, also := impl.InputOf(m, tr.Inputs[i])
			if !ok || !also {
				t.Fatal("no state or no input", tr, i, m)
			}
			if i < 3 {
				after, _ := impl.StateOf(m, tr.States[i+1])
				if !impl.StepFits(m, s, in, after) {
					t.Fatal("does not follow", tr, i, m)
				}
			}
			if begins := impl.InitFits(m, s); i == 0 && begins == (impl.TraceCode(m, tr) == impl.TraceInit) {
				t.Fatal("begins", begins, tr, m)
			}
		}
	}
}

// Runs that are changed in one or two places, of which some still are witnesses.
func TestP20ChangedRuns(t *testing.T) {
	r := rand.New(rand.NewPCG(20, 3))
	codes := map[int]int{}
	for _, m := range someModels() {
		states := power(bitCount(m, impl.OpState))
		for count := range 8 {
			tr := run(t, m, beginning(t, m, anyWord(r)), someInputs(r, m, 1+count%4)...)
			for range 1 + r.IntN(2) {
				at := r.IntN(len(tr.States))
				tr.States[at] = []int{r.IntN(states), tr.States[at]}[r.IntN(2)]
				tr.Inputs[at] = someInputs(r, m, 1)[0]
			}
			codes[checkTrace(t, m, tr)]++
		}
	}
	for _, code := range list(0, impl.TraceInit, impl.TraceStep, impl.TraceHold, impl.TraceNoBad) {
		if codes[code] < 50 {
			t.Fatal("too few traces of code", code, codes)
		}
	}
}

// A trace of one moment has no step; what begins, holds and is bad is asked of that moment.
func TestP20OneMoment(t *testing.T) {
	m := gateModel(t)
	for state := range 8 {
		for input := range 4 {
			code, bad := 0, 0
			switch {
			case state != 0:
				code, bad = impl.TraceInit, -1
			case input%2 == 0:
				code, bad = impl.TraceHold, -1
			case input == 1:
				code, bad = impl.TraceNoBad, -1
			}
			tr := run(t, m, state, input)
			wantTrace(t, m, tr, code, bad)
			wantTrace(t, m, impl.Trace{States: list(state), Inputs: list(input)}, code, bad)
		}
	}
	for _, m := range someModels()[:40] {
		for state := range power(bitCount(m, impl.OpState)) {
			checkRun(t, m, state, power(bitCount(m, impl.OpInput))-1)
		}
	}
}

// gateTrace is a trace of the gate with these faults, those of steps and of what holds at these moments.
func gateTrace(moments int, shape bool, begin bool, step int, hold int, noBad bool) impl.Trace {
	var tr impl.Trace
	x := flag(begin)
	for i := range moments {
		if i > 0 && i-1 == step {
			x += 2
		}
		tr.States = append(tr.States, x%8)
		tr.Inputs = append(tr.Inputs, flag(i != hold)+2*flag(!noBad || i < moments-1))
		x++
	}
	if shape {
		tr.Inputs = append(tr.Inputs, 3)
	}
	return tr
}

// Each code by itself, and each set of faults, of which the first of the list is told, wherever in the trace they are.
func TestP20TheFirstCodeIsTold(t *testing.T) {
	m := gateModel(t)
	const moments = 4
	seen := map[int]int{}
	for faults := range 8 {
		shape, begin, noBad := faults%2 == 1, faults/2%2 == 1, faults/4 == 1
		for step := -1; step < moments-1; step++ {
			for hold := -1; hold < moments; hold++ {
				code, bad := 0, -1
				switch {
				case shape:
					code = impl.TraceShape
				case begin:
					code = impl.TraceInit
				case step >= 0:
					code = impl.TraceStep
				case hold >= 0:
					code = impl.TraceHold
				case noBad:
					code = impl.TraceNoBad
				default:
					bad = 0
				}
				seen[code]++
				wantTrace(t, m, gateTrace(moments, shape, begin, step, hold, noBad), code, bad, shape, begin, step, hold, noBad)
			}
		}
	}
	wantInt(t, len(seen), 6, "codes that were told")
}

// What must hold must hold at each moment: at the last one, too, and nowhere else is it enough.
func TestP20WhatMustHoldAtTheLastMoment(t *testing.T) {
	m := gateModel(t)
	for moments := 1; moments <= 6; moments++ {
		wantTrace(t, m, gateTrace(moments, false, false, -1, -1, false), 0, 0)
		for hold := range moments {
			wantTrace(t, m, gateTrace(moments, false, false, -1, hold, false), impl.TraceHold, -1, "at moment", hold)
		}
	}
	// Of several that must hold it is enough that one does not.
	several := read(t, "0 input 1 a\n1 input 1 b\n2 input 1 c\n3 const 1 1\nhold 0\nhold 1\nhold 2\nbad 3\n")
	for input := range 8 {
		code := impl.TraceHold * flag(input != 7)
		wantTrace(t, several, impl.Trace{States: list(0, 0, 0), Inputs: list(7, 7, input)}, code, -flag(code != 0))
		wantTrace(t, several, impl.Trace{States: list(0, 0, 0), Inputs: list(input, 7, 7)}, code, -flag(code != 0))
	}
}

// A bad that is met ahead of the last moment counts for nothing: it is no witness, and no fault.
func TestP20BadsAheadOfTheLastMoment(t *testing.T) {
	m := gateModel(t)
	for early := range 4 {
		inputs := list(1+2*(early%2), 1+2*(early/2), 1)
		wantTrace(t, m, run(t, m, 0, inputs...), impl.TraceNoBad, -1)
		inputs[2] = 3
		wantTrace(t, m, run(t, m, 0, inputs...), 0, 0)
	}
}

// Of several bads at the last moment the first place within Bads is told, whatever was met ahead of it.
func TestP20SeveralBads(t *testing.T) {
	for _, order := range [][]int{{0, 1, 2}, {2, 1, 0}, {1, 1, 0, 2}, {2}, nil} {
		m := read(t, "0 input 1 a\n1 state 1 s\n2 input 1 b\n")
		m.Bads = order
		for number := range 8 {
			bits := list(number%2, number/2%2, number/4)
			bad := slices.IndexFunc(order, func(at int) bool { return bits[at] == 1 })
			code := impl.TraceNoBad * flag(bad < 0)
			state, input := bits[1], bits[0]+2*bits[2]
			wantTrace(t, m, impl.Trace{States: list(state), Inputs: list(input)}, code, bad, order)
			wantTrace(t, m, impl.Trace{States: list(1, 0, state), Inputs: list(3, 0, input)}, code, bad, order)
		}
	}
}

// A witness of as many moments as there may be, and one more.
func TestP20LongestTraces(t *testing.T) {
	m := gateModel(t)
	inputs := repeated(3, impl.TraceMax+1)
	tr := run(t, m, 0, inputs...)
	for i, state := range tr.States {
		wantInt(t, state, i%8, "state at moment", i)
	}
	wantTrace(t, m, tr, 0, 0)
	for _, at := range list(0, 1, 150, impl.TraceMax-1, impl.TraceMax) {
		other := copyTrace(tr)
		other.Inputs[at] = 2
		wantTrace(t, m, other, impl.TraceHold, -1, at)
		other = copyTrace(tr)
		other.States[at] = (at + 1) % 8
		wantTrace(t, m, other, []int{impl.TraceStep, impl.TraceInit}[flag(at == 0)], -1, at)
		other = copyTrace(tr)
		other.Inputs[at] = 1
		missed := flag(at == impl.TraceMax)
		wantTrace(t, m, other, impl.TraceNoBad*missed, -missed, at)
	}
	tr.States, tr.Inputs = append(tr.States, (impl.TraceMax+1)%8), append(tr.Inputs, 3)
	wantTrace(t, m, tr, impl.TraceShape, -1, "a moment more")
	wantNoRun(t, m, 0, tr.Inputs, "an input more")
	wantInt(t, len(run(t, m, 5, inputs[1:]...).States), impl.TraceMax, "an input less")
}

// States that no next binds are played as 0, and in a step may have any value; at the beginning they are what they are.
func TestP20StatesThatNoNextBinds(t *testing.T) {
	m := read(t, "0 state 2 x\n1 state 1:1 mem\n2 state 2 y\n3 input 2 i\n4 const 1 1\nnext 2 3\nbad 4\n")
	for state := range 64 {
		tr := run(t, m, state, 3, 1, 2, 0)
		if !slices.Equal(tr.States, list(state, 3*16, 1*16, 2*16)) {
			t.Fatal("played", tr)
		}
		wantTrace(t, m, tr, 0, 0)
		for after := range 64 {
			code := impl.TraceStep * flag(after/16 != 3)
			wantTrace(t, m, impl.Trace{States: list(state, after), Inputs: list(3, 0)}, code, -flag(code != 0))
		}
	}
	free := read(t, "0 state 8 x\n1 const 1 1\nbad 1\n")
	for state := range 256 {
		wantTrace(t, free, impl.Trace{States: list(state, 255-state, 7, state), Inputs: list(0, 0, 0, 0)}, 0, 0)
		tr := run(t, free, state, 0, 0, 0)
		if !slices.Equal(tr.States, list(state, 0, 0)) {
			t.Fatal("played", tr)
		}
	}
}

// Models without states, without inputs, without both, and without anything: 0 is their one number.
func TestP20ModelsWithout(t *testing.T) {
	for _, c := range []struct {
		text      string
		code, bad int
	}{
		{"", impl.TraceNoBad, -1},
		{"0 const 1 1\nbad 0\n", 0, 0},
		{"0 const 1 0\n1 not 0\nbad 0\nbad 1\n", 0, 1},
		{"0 const 1 0\nbad 0\n", impl.TraceNoBad, -1},
		{"0 const 1 0\n1 not 0\nbad 1\nhold 1\nhold 0\n", impl.TraceHold, -1},
	} {
		m := read(t, c.text)
		for _, moments := range list(1, 2, impl.TraceMax+1) {
			tr := run(t, m, 0, repeated(0, moments)...)
			if !slices.Equal(tr.States, repeated(0, moments)) {
				t.Fatal("played", tr)
			}
			wantTrace(t, m, tr, c.code, c.bad, c.text)
		}
		wantNoRun(t, m, 1, list(0))
		wantNoRun(t, m, 0, list(0, 1))
		wantTrace(t, m, impl.Trace{States: list(0, 1), Inputs: list(0, 0)}, impl.TraceShape, -1)
		wantTrace(t, m, impl.Trace{States: list(0, 0), Inputs: list(0, 1)}, impl.TraceShape, -1)
	}
	inputs := read(t, "0 input 2 i\n1 all 0\nbad 1\n")
	wantTrace(t, inputs, run(t, inputs, 0, 1, 2, 3), 0, 0)
	wantTrace(t, inputs, run(t, inputs, 0, 3, 2), impl.TraceNoBad, -1)
	states := read(t, "0 state 2 x\n1 const 2 1\n2 add 0 1\n3 all 0\ninit 0 1\nnext 0 2\nbad 3\n")
	wantTrace(t, states, run(t, states, 1, 0, 0, 0), 0, 0)
	wantTrace(t, states, run(t, states, 1, 0, 0), impl.TraceNoBad, -1)
	wantTrace(t, states, run(t, states, 3, 0), impl.TraceInit, -1)
}

// A run is played whatever holds and is bad in it, and wherever it begins.
func TestP20RunsThatDoNotHold(t *testing.T) {
	m := read(t, "0 state 2 x\n1 const 2 2\n2 const 1 0\n3 not 0\ninit 0 1\nnext 0 3\nhold 2\nbad 2\n")
	for state := range 4 {
		tr := run(t, m, state, 0, 0, 0)
		if !slices.Equal(tr.States, list(state, 3-state, state)) {
			t.Fatal("played", tr)
		}
		wantTrace(t, m, tr, []int{impl.TraceInit, impl.TraceHold}[flag(state == 2)], -1)
	}
}

// Of each model, state and input: what is played follows, and all that follows is in what is bound the same.
func TestP25WhatComesNext(t *testing.T) {
	tried, follow, free := 0, 0, 0
	for _, m := range someModels() {
		states, inputs := power(bitCount(m, impl.OpState)), power(bitCount(m, impl.OpInput))
		if states*inputs > 64 || states < 2 || tried > 2000 {
			continue
		}
		for state := range states {
			for input := range inputs {
				tried++
				next := run(t, m, state, input, 0).States[1]
				wantInt(t, next, wantNext(t, m, state, input), "next of", state, input, m)
				count := checkFollowing(t, m, state, input, next, states)
				follow += count
				free += flag(count > 1)
			}
		}
	}
	if tried < 1000 || follow <= tried || free < 100 {
		t.Fatal("too little was tried", tried, follow, free)
	}
}

// checkFollowing goes through all states: those that follow are like the next one in what is bound, and no others; it tells how many there are.
func checkFollowing(t *testing.T, m impl.Model, state int, input int, next int, states int) int {
	t.Helper()
	s, _ := impl.StateOf(m, state)
	in, _ := impl.InputOf(m, input)
	like, _ := impl.StateOf(m, next)
	count := 0
	for after := range states {
		u, _ := impl.StateOf(m, after)
		same := true
		for i, at := range placesOf(m, impl.OpState) {
			same = same && (!isBound(m.Nexts, at) || sameValue(u[i], like[i]))
		}
		if impl.StepFits(m, s, in, u) != same {
			t.Fatal("follows", state, input, after, "next", next, m)
		}
		steps := impl.TraceCode(impl.Model{Nodes: m.Nodes, Nexts: m.Nexts}, impl.Trace{States: list(state, after), Inputs: list(input, 0)})
		wantInt(t, steps, []int{impl.TraceStep, impl.TraceNoBad}[flag(same)], "a step", state, input, after, m)
		count += flag(same)
	}
	return count
}

// Of large models some states and inputs.
func TestP25WhatComesNextInLargeModels(t *testing.T) {
	r := rand.New(rand.NewPCG(25, 1))
	for _, m := range someModels() {
		someMoments(m, r, func(s []impl.Value, in []impl.Value) {
			state, input := wantNumber(m, impl.OpState, s), wantNumber(m, impl.OpInput, in)
			next := run(t, m, state, input, 0).States[1]
			wantInt(t, next, wantNext(t, m, state, input), "next of", state, input, m)
			after, ok := impl.StateOf(m, next)
			if !ok || !impl.StepFits(m, s, in, after) {
				t.Fatal("does not follow", s, in, after, m)
			}
		})
	}
}

// All steps of the ring, by hand: x goes on by the input, and its old value is put where the input tells.
func TestP25NextByHand(t *testing.T) {
	m := ringModel(t, "")
	for state := range 64 {
		for input := range 2 {
			x, mem := state%4, list(state/4%4, state/16)
			mem[input] = x
			want := (x+input)%4 + 4*mem[0] + 16*mem[1]
			for last := range 2 {
				wantInt(t, run(t, m, state, input, last).States[1], want, "next of", state, input)
			}
		}
	}
}

// All states go on at once: two of them change places.
func TestP25StatesGoOnAtOnce(t *testing.T) {
	m := read(t, "0 state 2 x\n1 state 2 y\n2 input 1 go\n3 if 2 1 0\n4 if 2 0 1\nnext 0 3\nnext 1 4\n")
	for x := range 4 {
		for y := range 4 {
			tr := run(t, m, x+4*y, 1, 0, 1, 1, 0)
			if !slices.Equal(tr.States, list(x+4*y, y+4*x, y+4*x, x+4*y, y+4*x)) {
				t.Fatal("played", tr)
			}
		}
	}
}

// Answers are new memory, both lists of a trace apart, and nothing is written into an argument or behind its end.
func TestP20MemoryIsKeptApart(t *testing.T) {
	m := ringModel(t, "bad 9\n")
	kept := copyModel(m)
	inputs := append(list(1, 1, 0, 1), 777)[:4]
	tr := run(t, m, 60, inputs...)
	for i, l := range [][]int{tr.States, tr.Inputs} {
		room := l[:cap(l)]
		for j := range room {
			room[j] = 1000 + i
		}
	}
	if tr.States[3] != 1000 || tr.Inputs[3] != 1001 || !slices.Equal(inputs[:5], list(1, 1, 0, 1, 777)) {
		t.Fatal("memory is shared", tr, inputs[:5])
	}
	asked := impl.Trace{States: append(list(60, 13), 777)[:2], Inputs: append(list(1, 0), 777)[:2]}
	wantTrace(t, m, asked, 0, 0)
	if !slices.Equal(asked.States[:3], list(60, 13, 777)) || !slices.Equal(asked.Inputs[:3], list(1, 0, 777)) {
		t.Fatal("an argument was written into", asked)
	}
	// States and Inputs that are one list in memory are two lists of numbers.
	both := list(0, 1, 0)
	one := read(t, "0 state 1 x\n1 input 1 i\n2 not 1\nnext 0 2\nbad 2\n")
	wantTrace(t, one, impl.Trace{States: both, Inputs: both}, 0, 0)
	if !slices.Equal(both, list(0, 1, 0)) || !sameModel(m, kept) {
		t.Fatal("an argument was written into", both)
	}
}

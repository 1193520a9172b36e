package tests

import (
	"math/rand/v2"
	"slices"
	"testing"

	"loop.example/leadline/impl"
)

// cells is a value with these cells.
func cells(l ...int) impl.Value { return impl.Value{Cells: l} }

// values are values of words.
func values(l ...int) []impl.Value {
	var out []impl.Value
	for _, v := range l {
		out = append(out, cells(v))
	}
	return out
}

func copyValues(l []impl.Value) []impl.Value {
	var out []impl.Value
	for _, v := range l {
		out = append(out, cells(slices.Clone(v.Cells)...))
	}
	return out
}

func sameValue(a impl.Value, b impl.Value) bool { return slices.Equal(a.Cells, b.Cells) }

func sameValues(a []impl.Value, b []impl.Value) bool { return slices.EqualFunc(a, b, sameValue) }

// placesOf are the places of the nodes of a kind, ascending.
func placesOf(m impl.Model, kind int) []int {
	var l []int
	for i, n := range m.Nodes {
		if n.Kind == kind {
			l = append(l, i)
		}
	}
	return l
}

// filled are values for the nodes of a kind; each cell is what a rule tells for its width.
func filled(m impl.Model, kind int, rule func(w int) int) []impl.Value {
	var l []impl.Value
	for _, at := range placesOf(m, kind) {
		var v impl.Value
		for range power(m.Nodes[at].Sort.Index) {
			v.Cells = append(v.Cells, rule(m.Nodes[at].Sort.Width))
		}
		l = append(l, v)
	}
	return l
}

func least(w int) int { return 0 }

func greatest(w int) int { return power(w) - 1 }

func anyWord(r *rand.Rand) func(w int) int {
	return func(w int) int { return r.IntN(power(w)) }
}

// eachValues goes through all values for the nodes of a kind, the first cell changing fastest.
func eachValues(m impl.Model, kind int, f func(l []impl.Value)) {
	tops := filled(m, kind, greatest)
	now := filled(m, kind, least)
	for {
		f(now)
		carry := true
		for i, top := range tops {
			for j := range top.Cells {
				if carry && now[i].Cells[j] < top.Cells[j] {
					now[i].Cells[j]++
					carry = false
				} else if carry {
					now[i].Cells[j] = 0
				}
			}
		}
		if carry {
			return
		}
	}
}

// eachMoment goes through all states and inputs.
func eachMoment(m impl.Model, f func(s []impl.Value, in []impl.Value)) {
	eachValues(m, impl.OpState, func(s []impl.Value) {
		eachValues(m, impl.OpInput, func(in []impl.Value) { f(s, in) })
	})
}

// someMoments goes through the least, the greatest and some other states and inputs.
func someMoments(m impl.Model, r *rand.Rand, f func(s []impl.Value, in []impl.Value)) {
	for i, rule := range []func(w int) int{least, greatest, anyWord(r), anyWord(r), anyWord(r), anyWord(r)} {
		in := filled(m, impl.OpInput, rule)
		if i%2 == 1 {
			in = filled(m, impl.OpInput, anyWord(r))
		}
		f(filled(m, impl.OpState, rule), in)
	}
}

// wantAll is what the document tells of the values of all nodes, with chapter 1 for what is reckoned with words alone.
func wantAll(t *testing.T, m impl.Model, s []impl.Value, in []impl.Value) []impl.Value {
	t.Helper()
	var all []impl.Value
	for _, n := range m.Nodes {
		switch n.Kind {
		case impl.OpState:
			all, s = append(all, s[0]), s[1:]
		case impl.OpInput:
			all, in = append(all, in[0]), in[1:]
		case impl.OpConst:
			all = append(all, cells(n.N))
		default:
			all = append(all, cells(wantCells(t, m.Nodes, n, all)...))
		}
	}
	return all
}

// wantCells is what the document tells of a node with parts, by the values of the nodes ahead of it.
func wantCells(t *testing.T, l []impl.Node, n impl.Node, all []impl.Value) []int {
	t.Helper()
	var parts [3][]int
	for i, at := range []int{n.A, n.B, n.C}[:rowOf(n.Kind).parts] {
		parts[i] = all[at].Cells
	}
	a, b, c := parts[0], parts[1], parts[2]
	switch n.Kind {
	case impl.OpIf:
		return [][]int{c, b}[a[0]]
	case impl.OpEq:
		same := true
		for i := range a {
			same = same && a[i] == b[i]
		}
		return []int{flag(same)}
	case impl.OpRead:
		return []int{a[b[0]]}
	case impl.OpPut:
		var l []int
		for i, cell := range a {
			l = append(l, []int{cell, c[0]}[flag(i == b[0])])
		}
		return l
	}
	return []int{wantWord(t, l, n, a, b)}
}

// wantWord is what chapter 1 tells of a node that is reckoned with words alone.
func wantWord(t *testing.T, l []impl.Node, n impl.Node, a []int, b []int) int {
	t.Helper()
	v, width, ok := 0, 0, false
	w := l[n.A].Sort.Width
	switch {
	case n.Kind == impl.OpJoin:
		v, width, ok = impl.WordJoin(w, a[0], l[n.B].Sort.Width, b[0])
	case n.Kind == impl.OpSlice:
		v, width, ok = impl.WordSlice(w, a[0], n.N, n.M)
	case n.Kind == impl.OpZext || n.Kind == impl.OpSext:
		v, width, ok = impl.WordGrow(w, a[0], n.N, n.Kind == impl.OpSext)
	case rowOf(n.Kind).parts == 1:
		v, width, ok = impl.WordOne(n.Kind, w, a[0])
	default:
		v, width, ok = impl.WordTwo(n.Kind, w, a[0], b[0])
	}
	if !ok || width != n.Sort.Width {
		t.Fatal("chapter 1 tells no word of", n, a, b)
	}
	return v
}

// checkAll holds EvalAll to the values that it should tell.
func checkAll(t *testing.T, m impl.Model, s []impl.Value, in []impl.Value, want []impl.Value) {
	t.Helper()
	got := impl.EvalAll(m, s, in)
	for i := range want {
		if len(got) != len(want) || !sameValue(got[i], want[i]) {
			t.Fatal("values", got, "want", want, "at", s, in, "first of", m.Nodes[i])
		}
	}
	if len(got) != len(want) {
		t.Fatal("values", got, "want", want, "at", s, in)
	}
}

// freeModel is a model in which all may be: no init, no next and no hold stands against it, and a bad is always met.
func freeModel() impl.Model {
	return impl.Model{
		Nodes: []impl.Node{
			{Kind: impl.OpState, Sort: words(3), Name: "x"},
			{Kind: impl.OpInput, Sort: words(2), Name: "i"},
			{Kind: impl.OpConst, Sort: words(1), N: 1},
			{Kind: impl.OpState, Sort: arrays(1, 2), Name: "mem"},
			{Kind: impl.OpInput, Sort: arrays(1, 1), Name: "two"},
			{Kind: impl.OpState, Sort: words(1), Name: "y"},
		},
		Bads: []int{2},
	}
}

// wantMoment holds all functions to what they tell of a state and an input of freeModel, or of what is none.
func wantMoment(t *testing.T, m impl.Model, s []impl.Value, in []impl.Value, isState bool, isInput bool, what ...any) {
	t.Helper()
	both := isState && isInput
	right := impl.StateFits(m, s) == isState && impl.InputFits(m, in) == isInput &&
		len(impl.EvalAll(m, s, in)) == len(m.Nodes)*flag(both) &&
		impl.EvalHolds(m, s, in) == both && impl.EvalBad(m, s, in) == flag(both)-1 &&
		impl.InitFits(m, s) == isState
	if !right {
		t.Fatal(append([]any{"not as it should be:", s, in, isState, isInput}, what...)...)
	}
	for _, ok := range []bool{true, false} {
		u := filled(freeModel(), impl.OpState, least)
		if !ok {
			u = u[1:]
		}
		if impl.StepFits(m, s, in, u) != (both && ok) || impl.StepFits(m, u, in, s) != (both && ok) {
			t.Fatal(append([]any{"a step", s, in, u, isState, isInput}, what...)...)
		}
	}
	wantCodes(t, m, s, in, isState, isInput)
}

func wantCodes(t *testing.T, m impl.Model, s []impl.Value, in []impl.Value, isState bool, isInput bool) {
	t.Helper()
	if code, ok := impl.StateCode(m, s); ok != isState || !ok && code != 0 {
		t.Fatal("the number of a state", s, code, ok)
	}
	if code, ok := impl.InputCode(m, in); ok != isInput || !ok && code != 0 {
		t.Fatal("the number of an input", in, code, ok)
	}
}

// bound are values for all states: those that a list binds are what it tells, all others what a rule tells.
func bound(m impl.Model, binds []impl.Bind, all []impl.Value, rule func(w int) int) []impl.Value {
	l := filled(m, impl.OpState, rule)
	for i, at := range placesOf(m, impl.OpState) {
		for _, b := range binds {
			for j := range l[i].Cells {
				if b.State == at {
					// A word stands for each cell.
					l[i].Cells[j] = all[b.Node].Cells[j%len(all[b.Node].Cells)]
				}
			}
		}
	}
	return l
}

// eachOtherCell goes through states that differ from one in a cell alone; it tells the place of the state that has it.
func eachOtherCell(m impl.Model, s []impl.Value, f func(at int, other []impl.Value)) {
	for i, at := range placesOf(m, impl.OpState) {
		for j := range s[i].Cells {
			other := copyValues(s)
			other[i].Cells[j] = wrapped(m.Nodes[at].Sort.Width, s[i].Cells[j]+1)
			f(at, other)
		}
	}
}

func isBound(binds []impl.Bind, state int) bool {
	return slices.ContainsFunc(binds, func(b impl.Bind) bool { return b.State == state })
}

// wantApart fails if two lists of an answer share memory, spare room included.
func wantApart(t *testing.T, l []impl.Value) {
	t.Helper()
	for i, v := range l {
		room := v.Cells[:cap(v.Cells)]
		for j := range room {
			room[j] = 1000 + i
		}
	}
	for i, v := range l {
		for _, cell := range v.Cells[:cap(v.Cells)] {
			wantInt(t, cell, 1000+i, "memory of value", i)
		}
	}
	room := l[:cap(l)]
	for i := range room {
		room[i] = cells(2000)
	}
}

// roomy is a copy of values, each list of which has spare room with a mark in it.
func roomy(l []impl.Value) []impl.Value {
	var out []impl.Value
	for _, v := range l {
		out = append(out, cells(append(slices.Clone(v.Cells), 777)[:len(v.Cells)]...))
	}
	return append(out, cells(777))[:len(l)]
}

// wantUntouched fails if one of the lists that roomy made was written into, or behind its end.
func wantUntouched(t *testing.T, got []impl.Value, want []impl.Value) {
	t.Helper()
	if !sameValues(got, want) || !sameValue(got[:len(got)+1][len(got)], cells(777)) {
		t.Fatal("an argument was written into", got, want)
	}
	for _, v := range got {
		wantInt(t, v.Cells[:len(v.Cells)+1][len(v.Cells)], 777, "behind the end of", v)
	}
}

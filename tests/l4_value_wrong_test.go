package tests

import (
	"slices"
	"testing"

	"loop.example/leadline/impl"
)

func TestP44WhatFits(t *testing.T) {
	m := freeModel()
	eachMoment(m, func(s []impl.Value, in []impl.Value) {
		if s[0].Cells[0]%3 == 1 {
			wantMoment(t, m, s, in, true, true)
		}
	})
}

// spoiltValues are lists of values that do not fit the nodes of a kind, though the one that they are made of does.
func spoiltValues(m impl.Model, kind int, good []impl.Value) [][]impl.Value {
	out := [][]impl.Value{nil, {}, good[1:], good[:len(good)-1]}
	add := func(change func(l []impl.Value) []impl.Value) { out = append(out, change(copyValues(good))) }
	for i, at := range placesOf(m, kind) {
		add(func(l []impl.Value) []impl.Value { return slices.Insert(l, i, cells(0)) })
		add(func(l []impl.Value) []impl.Value { return append(l, l[i]) })
		add(func(l []impl.Value) []impl.Value { return append(l, cells()) })
		for _, cut := range [][]int{nil, {}, good[i].Cells[1:], append(slices.Clone(good[i].Cells), 0), append(slices.Clone(good[i].Cells), good[i].Cells...)} {
			add(func(l []impl.Value) []impl.Value {
				l[i].Cells = cut
				return l
			})
		}
		for j := range good[i].Cells {
			for _, word := range noWords(m.Nodes[at].Sort.Width) {
				add(func(l []impl.Value) []impl.Value {
					l[i].Cells[j] = word
					return l
				})
			}
		}
	}
	return append(out, make([]impl.Value, len(good)), make([]impl.Value, 100000))
}

func TestP45NoStatesAndNoInputs(t *testing.T) {
	m := freeModel()
	for _, rule := range []func(w int) int{least, greatest} {
		s, in := filled(m, impl.OpState, rule), filled(m, impl.OpInput, rule)
		wantMoment(t, m, s, in, true, true)
		for _, wrong := range spoiltValues(m, impl.OpState, s) {
			wantMoment(t, m, wrong, in, false, true)
		}
		for _, wrong := range spoiltValues(m, impl.OpInput, in) {
			wantMoment(t, m, s, wrong, true, false)
		}
		wantMoment(t, m, in, s, false, false, "state and input in each other's place")
	}
}

// The widths of one state do not serve for another one.
func TestP45ValuesInAnotherOrder(t *testing.T) {
	m := freeModel()
	s := []impl.Value{cells(7), cells(3, 3), cells(1)}
	in := []impl.Value{cells(3), cells(1, 1)}
	wantMoment(t, m, s, in, true, true)
	for _, order := range [][]int{{2, 1, 0}, {1, 0, 2}, {0, 2, 1}, {1, 2, 0}, {2, 0, 1}} {
		wantMoment(t, m, []impl.Value{s[order[0]], s[order[1]], s[order[2]]}, in, false, true, order)
	}
	wantMoment(t, m, s, []impl.Value{in[1], in[0]}, true, false)
}

func TestP44ModelsThatAreNotOk(t *testing.T) {
	base := counterModel()
	s, in := filled(base, impl.OpState, least), filled(base, impl.OpInput, least)
	if !impl.StateFits(base, s) || !impl.InputFits(base, in) {
		t.Fatal("the model without a flaw")
	}
	for _, f := range flaws() {
		m := copyModel(base)
		f.make(&m)
		for _, rule := range []func(w int) int{least, greatest} {
			s, in := filled(base, impl.OpState, rule), filled(base, impl.OpInput, rule)
			wantMoment(t, m, s, in, false, false, f.what)
			wantMoment(t, m, nil, nil, false, false, f.what)
		}
	}
}

// A flaw leaves values that would fit the model's states and inputs, if it were ok.
func TestP44FlawsThatValuesDoNotShow(t *testing.T) {
	for _, spoil := range []func(m *impl.Model){
		func(m *impl.Model) { m.Bads = []int{2, 2, 2, 2, 2} },
		func(m *impl.Model) { m.Bads = []int{0} },
		func(m *impl.Model) { m.Holds = []int{-1} },
		func(m *impl.Model) { m.Nodes[2].N = 2 },
		func(m *impl.Model) { m.Nodes[5].Name = "x" },
		func(m *impl.Model) { m.Inits = []impl.Bind{{State: 5, Node: 5}} },
		func(m *impl.Model) { m.Nexts = []impl.Bind{{State: 3, Node: 2}} },
		func(m *impl.Model) {
			m.Nodes = append(m.Nodes, impl.Node{Kind: impl.OpRead, A: 3, B: 1, Sort: words(2)})
		},
	} {
		m := freeModel()
		s, in := filled(m, impl.OpState, greatest), filled(m, impl.OpInput, greatest)
		wantMoment(t, m, s, in, true, true)
		spoil(&m)
		wantMoment(t, m, s, in, false, false, m)
	}
	tooBig := impl.Model{Nodes: []impl.Node{{Kind: impl.OpState, Sort: words(9), Name: "x"}, {Kind: impl.OpInput, Sort: words(5), Name: "i"}}}
	wantMoment(t, tooBig, values(0), values(0), false, false, "a state too big")
	tooBig.Nodes[0].Sort, tooBig.Nodes[1].Sort = words(8), words(6)
	wantMoment(t, tooBig, values(0), values(0), false, false, "an input too big")
}

package tests

import (
	"math"
	"slices"
	"strings"
	"testing"

	"loop.example/leadline/impl"
)

// noSorts are sorts that are none.
func noSorts() []impl.Sort {
	l := []impl.Sort{{}, arrays(math.MinInt, 1), arrays(math.MaxInt, 1), arrays(64, 1), arrays(63, math.MinInt)}
	for _, w := range noWidths() {
		for i := range impl.IndexMax + 1 {
			l = append(l, arrays(i, w))
		}
	}
	for _, w := range allWidths() {
		l = append(l, arrays(-1, w), arrays(impl.IndexMax+1, w), arrays(-w, w))
	}
	return l
}

func TestP59NoSorts(t *testing.T) {
	for _, s := range noSorts() {
		if impl.SortOk(s) {
			t.Fatal("no sort", s)
		}
		wantInt(t, impl.SortCells(s), 0, "cells", s)
		wantInt(t, impl.SortBits(s), 0, "bits", s)
		wantNoSort(t, nil, impl.Node{Kind: impl.OpInput, Sort: s, Name: "a"})
		wantNoSort(t, nil, impl.Node{Kind: impl.OpState, Sort: s, Name: "a"})
		wantNoSort(t, nil, impl.Node{Kind: impl.OpConst, Sort: s})
		wantCode(t, impl.Model{Nodes: []impl.Node{{Kind: impl.OpState, Sort: s, Name: "a"}}}, impl.ModelBadNode)
	}
}

// Each of the parts that a kind has must be of a sort that is one; other nodes are not looked at.
func TestP59PartsOfNoSort(t *testing.T) {
	l := rightNodes()
	for i, n := range l {
		parts := []int{n.A, n.B, n.C}[:rowOf(n.Kind).parts]
		for place := range i {
			for _, s := range noSorts() {
				ahead := slices.Clone(l[:i])
				ahead[place].Sort = s
				if slices.Contains(parts, place) {
					wantNoSort(t, ahead, n, "part", place, s)
				} else if got, ok := impl.NodeSort(ahead, n); got != n.Sort || !ok {
					t.Fatal("what is no part was looked at", n, place, s)
				}
			}
		}
	}
	for _, s := range noSorts() {
		wantNoSort(t, partNodes(s, s), impl.Node{Kind: impl.OpEq, A: 0, B: 1}, "both alike", s)
		wantNoSort(t, partNodes(words(1), s, s), impl.Node{Kind: impl.OpIf, A: 0, B: 1, C: 2}, "both alike", s)
	}
}

func TestP59PartsAtNoPlace(t *testing.T) {
	l := rightNodes()
	for i, n := range l {
		for which := range rowOf(n.Kind).parts {
			for _, part := range []int{-1, math.MinInt, i, i + 1, len(l), impl.NodeMax, math.MaxInt} {
				wrong := n
				*[]*int{&wrong.A, &wrong.B, &wrong.C}[which] = part
				wantNoSort(t, l[:i], wrong, "part", which, part)
				m := impl.Model{Nodes: slices.Clone(l)}
				m.Nodes[i] = wrong
				wantCode(t, m, impl.ModelBadNode, "part", which, part)
			}
		}
	}
}

// A field that a kind has not must be nothing.
func TestP59FieldsThatAKindHasNot(t *testing.T) {
	l := rightNodes()
	for i, n := range l {
		for _, v := range []int{1, 2, -1, i, math.MinInt, math.MaxInt} {
			if v == 0 {
				continue
			}
			for _, wrong := range withStrayNumber(n, v) {
				wantNoSort(t, l[:i], wrong, "stray", v)
				m := impl.Model{Nodes: slices.Clone(l)}
				m.Nodes[i] = wrong
				wantCode(t, m, impl.ModelBadNode, "stray", v)
			}
		}
		if n.Name == "" {
			n.Name = "stray"
			wantNoSort(t, l[:i], n, "name")
		}
	}
}

// withStrayNumber is a node with a number in each field that its kind has not.
func withStrayNumber(n impl.Node, v int) []impl.Node {
	row := rowOf(n.Kind)
	var l []impl.Node
	add := func(has bool, set func(n *impl.Node)) {
		if !has {
			wrong := n
			set(&wrong)
			l = append(l, wrong)
		}
	}
	grows := n.Kind == impl.OpZext || n.Kind == impl.OpSext
	add(row.parts >= 1, func(n *impl.Node) { n.A = v })
	add(row.parts >= 2, func(n *impl.Node) { n.B = v })
	add(row.parts >= 3, func(n *impl.Node) { n.C = v })
	add(n.Kind == impl.OpConst || n.Kind == impl.OpSlice || grows, func(n *impl.Node) { n.N = v })
	add(n.Kind == impl.OpSlice, func(n *impl.Node) { n.M = v })
	return l
}

func TestP59FarNumbers(t *testing.T) {
	for _, w := range allWidths() {
		l := partNodes(words(w))
		for _, v := range []int{math.MinInt, math.MinInt + 1, -65536, 65536, 1 << 62, math.MaxInt - 16, math.MaxInt} {
			wantNoSort(t, l, impl.Node{Kind: impl.OpZext, N: v})
			wantNoSort(t, l, impl.Node{Kind: impl.OpSext, N: v})
			wantNoSort(t, l, impl.Node{Kind: impl.OpSlice, N: v})
			wantNoSort(t, l, impl.Node{Kind: impl.OpSlice, M: v})
			wantNoSort(t, l, impl.Node{Kind: impl.OpSlice, N: v, M: v})
			wantNoSort(t, l, impl.Node{Kind: impl.OpConst, N: v, Sort: words(w)})
		}
	}
}

func TestP59NoKinds(t *testing.T) {
	for _, kind := range []int{0, -1, impl.OpPut + 1, 64, 64 + impl.OpNot, 256 + impl.OpConst, math.MinInt, math.MaxInt} {
		wantNoSort(t, partNodes(words(1)), impl.Node{Kind: kind})
		wantNoSort(t, partNodes(words(1)), impl.Node{Kind: kind, Sort: words(1), Name: "a"})
		wantCode(t, impl.Model{Nodes: []impl.Node{{Kind: kind, Sort: words(1)}}}, impl.ModelBadNode)
	}
}

func TestP59NoNames(t *testing.T) {
	names := []string{"", "0", "9a", "abcdefghi", "A", "aB", "a_b", "a b", " a", "a ", "a\n", "a\x00", "\x80", "a\xff", "`", "{", "a`", "a{", "a/", "a:", "é", "aé", "名", strings.Repeat("a", 100000)}
	for _, name := range names {
		for _, kind := range []int{impl.OpInput, impl.OpState} {
			n := impl.Node{Kind: kind, Sort: words(1), Name: name}
			wantNoSort(t, nil, n)
			wantCode(t, impl.Model{Nodes: []impl.Node{n}}, impl.ModelBadNode, name)
		}
	}
	for b := range 256 {
		inside := b >= 'a' && b <= 'z' || b >= '0' && b <= '9'
		for name, want := range map[string]bool{string([]byte{byte(b)}): inside && b > '9', string([]byte{'q', byte(b)}): inside} {
			if _, ok := impl.NodeSort(nil, impl.Node{Kind: impl.OpState, Sort: words(1), Name: name}); ok != want {
				t.Fatalf("name %q: %v", name, ok)
			}
		}
	}
}

// flaw is a change that makes a model have a code, whatever else is wrong with it.
type flaw struct {
	code int
	what string
	make func(m *impl.Model)
}

func flaws() []flaw {
	node := func(m *impl.Model, n impl.Node) { m.Nodes = append(m.Nodes, n) }
	return []flaw{
		{impl.ModelTooMany, "nodes", func(m *impl.Model) {
			for len(m.Nodes) <= impl.NodeMax {
				node(m, impl.Node{Kind: impl.OpConst, Sort: words(1)})
			}
		}},
		{impl.ModelTooMany, "inits", func(m *impl.Model) { m.Inits = append(m.Inits, manyBinds(impl.NodeMax+1)...) }},
		{impl.ModelTooMany, "nexts", func(m *impl.Model) { m.Nexts = append(m.Nexts, manyBinds(impl.NodeMax+1)...) }},
		{impl.ModelTooMany, "bads", func(m *impl.Model) { m.Bads = append(m.Bads, 8, 8, 8, 8) }},
		{impl.ModelTooMany, "holds", func(m *impl.Model) { m.Holds = append(m.Holds, 8, 8, 8) }},
		{impl.ModelBadNode, "kind", func(m *impl.Model) { node(m, impl.Node{}) }},
		{impl.ModelBadNode, "part behind", func(m *impl.Model) {
			node(m, impl.Node{Kind: impl.OpNot, A: len(m.Nodes), Sort: words(1)})
		}},
		{impl.ModelBadNode, "sort", func(m *impl.Model) { m.Nodes[7].Sort = words(4) }},
		{impl.ModelBadNode, "array made a word", func(m *impl.Model) { m.Nodes[9].Sort = words(2) }},
		{impl.ModelTwice, "names of states", func(m *impl.Model) { m.Nodes[4].Name = "x" }},
		{impl.ModelTwice, "names of a state and an input", func(m *impl.Model) { m.Nodes[3].Name = "x" }},
		{impl.ModelTwice, "states of inits", func(m *impl.Model) { m.Inits = append(m.Inits, impl.Bind{State: 0, Node: 1}) }},
		{impl.ModelTwice, "states of nexts", func(m *impl.Model) { m.Nexts = append(m.Nexts, impl.Bind{State: 0, Node: 0}) }},
		{impl.ModelTwice, "states that are none", func(m *impl.Model) {
			m.Inits = append(m.Inits, impl.Bind{State: -7}, impl.Bind{State: -7})
		}},
		{impl.ModelBadBind, "init of an input", func(m *impl.Model) { m.Inits = append(m.Inits, impl.Bind{State: 3, Node: 1}) }},
		{impl.ModelBadBind, "next of a constant", func(m *impl.Model) { m.Nexts = append(m.Nexts, impl.Bind{State: 1, Node: 1}) }},
		{impl.ModelBadBind, "init of no place", func(m *impl.Model) { m.Inits = append(m.Inits, impl.Bind{State: -1, Node: 1}) }},
		{impl.ModelBadBind, "next of no place", func(m *impl.Model) { m.Nexts = append(m.Nexts, impl.Bind{State: 99, Node: 1}) }},
		{impl.ModelBadBind, "init by no place", func(m *impl.Model) { m.Inits[0].Node = math.MaxInt }},
		{impl.ModelBadBind, "next by no place", func(m *impl.Model) { m.Nexts[0].Node = math.MinInt }},
		{impl.ModelBadBind, "init by another sort", func(m *impl.Model) { m.Inits[0].Node = 5 }},
		{impl.ModelBadBind, "next by another sort", func(m *impl.Model) { m.Nexts[1].Node = 8 }},
		{impl.ModelBadBind, "next by a word for each cell", func(m *impl.Model) { m.Nexts[0].Node = 5 }},
		{impl.ModelBadBind, "init by its state", func(m *impl.Model) { m.Inits[0].Node = 0 }},
		{impl.ModelBadBind, "init by what is made of an input", func(m *impl.Model) { m.Inits[0].Node = 6 }},
		{impl.ModelBadProp, "bad of three bits", func(m *impl.Model) { m.Bads[0] = 1 }},
		{impl.ModelBadProp, "hold of an array", func(m *impl.Model) { m.Holds[1] = 4 }},
		{impl.ModelBadProp, "bad of no place", func(m *impl.Model) { m.Bads[0] = -1 }},
		{impl.ModelBadProp, "hold of no place", func(m *impl.Model) { m.Holds[0] = math.MaxInt }},
		{impl.ModelTooBig, "states", func(m *impl.Model) {
			node(m, impl.Node{Kind: impl.OpState, Sort: words(2), Name: "more" + string(rune('a'+len(m.Nodes)%26))})
		}},
		{impl.ModelTooBig, "inputs", func(m *impl.Model) {
			node(m, impl.Node{Kind: impl.OpInput, Sort: arrays(2, 2), Name: "much" + string(rune('a'+len(m.Nodes)%26))})
		}},
	}
}

func TestP59EachFlawHasItsCode(t *testing.T) {
	for _, f := range flaws() {
		m := counterModel()
		f.make(&m)
		wantCode(t, m, f.code, f.what)
	}
}

func TestP59TheFirstCodeIsTold(t *testing.T) {
	for _, f := range flaws() {
		for _, g := range flaws() {
			// Two flaws of one code may undo each other.
			if f.code == g.code {
				continue
			}
			m := counterModel()
			f.make(&m)
			g.make(&m)
			wantCode(t, m, min(f.code, g.code), f.what, g.what)
		}
	}
}

// From all flaws on, each code is told once those ahead of it are gone.
func TestP59AllCodesInOrder(t *testing.T) {
	for code := impl.ModelTooMany; code <= impl.ModelTooBig; code++ {
		m := counterModel()
		for _, what := range []string{"states", "bad of no place", "init of no place", "names of states", "kind", "nexts"}[:impl.ModelTooBig+1-code] {
			for _, f := range flaws() {
				if f.what == what {
					f.make(&m)
				}
			}
		}
		wantCode(t, m, code)
	}
}

func TestP59BadPlacesOfBindsAndProps(t *testing.T) {
	base := counterModel()
	for _, at := range []int{-1, math.MinInt, len(base.Nodes), len(base.Nodes) + 1, impl.NodeMax, math.MaxInt} {
		m := copyModel(base)
		m.Inits[1].State = at
		wantCode(t, m, impl.ModelBadBind, "state of an init", at)
		m = copyModel(base)
		m.Inits[1].Node = at
		wantCode(t, m, impl.ModelBadBind, "node of an init", at)
		m = copyModel(base)
		m.Nexts[1].State = at
		wantCode(t, m, impl.ModelBadBind, "state of a next", at)
		m = copyModel(base)
		m.Nexts[1].Node = at
		wantCode(t, m, impl.ModelBadBind, "node of a next", at)
		m = copyModel(base)
		m.Bads = append(m.Bads, at)
		wantCode(t, m, impl.ModelBadProp, "bad", at)
		m = copyModel(base)
		m.Holds = append(m.Holds, at)
		wantCode(t, m, impl.ModelBadProp, "hold", at)
	}
}

// An init and a next may bind one state, a bad may be there twice, and be a hold, too.
func TestP59WhatIsNoFlaw(t *testing.T) {
	m := counterModel()
	m.Bads, m.Holds = []int{8, 8}, []int{8, 8}
	wantCode(t, m, 0, "props that are there twice")
	m.Inits, m.Nexts = nil, nil
	wantCode(t, m, 0, "no binds")
	m.Bads, m.Holds = nil, nil
	wantCode(t, m, 0, "no props")
	wantCode(t, impl.Model{}, 0, "nothing")
	wantCode(t, impl.Model{Nodes: []impl.Node{}, Inits: []impl.Bind{}, Bads: []int{}}, 0, "empty lists")
}

func TestP59HugeLists(t *testing.T) {
	m := impl.Model{Nodes: make([]impl.Node, 100000), Inits: make([]impl.Bind, 100000), Bads: make([]int, 100000)}
	wantCode(t, m, impl.ModelTooMany)
	wantNoSort(t, m.Nodes, impl.Node{Kind: impl.OpConst, Sort: words(1)})
}

package tests

import (
	"slices"
	"strconv"
	"strings"
	"testing"

	"loop.example/leadline/impl"
)

// grid is a model with how many bits its numbers have, and the values of all its nodes at each number of a state and an input.
type grid struct {
	impl.Model
	stateBits, vars int
	all             [][]impl.Value
}

// bareGrid is a model's grid without values, which serves for sets of states and inputs.
func bareGrid(m impl.Model) grid {
	bits := bitCount(m, impl.OpState)
	return grid{Model: m, stateBits: bits, vars: bits + bitCount(m, impl.OpInput)}
}

func gridOf(t *testing.T, m impl.Model) grid {
	t.Helper()
	g := bareGrid(m)
	for n := range power(g.vars) {
		s, in := g.moment(n)
		all := impl.EvalAll(m, s, in)
		wantInt(t, len(all), len(m.Nodes), "values of", m)
		g.all = append(g.all, all)
	}
	return g
}

// moment is the state and the input of a number.
func (g grid) moment(n int) ([]impl.Value, []impl.Value) {
	return valuesOf(g.Model, impl.OpState, n%power(g.stateBits)), valuesOf(g.Model, impl.OpInput, n/power(g.stateBits))
}

// bitTable is the numbers at which a bit of a node's cell is 1.
func (g grid) bitTable(at int, cell int, i int) table {
	return tableOf(g.vars, func(n int) bool { return bit(g.all[n][at].Cells[cell], i) == 1 })
}

// wantBits are the diagrams that should be told of a node, if none of them is too large.
func (g grid) wantBits(at int) ([]impl.Bdd, bool) {
	var l []impl.Bdd
	s := g.Nodes[at].Sort
	for cell := range power(s.Index) {
		for i := range s.Width {
			b := diagram(g.bitTable(at, cell, i))
			if len(b.Nodes) > impl.BddMax {
				return nil, false
			}
			l = append(l, b)
		}
	}
	return l, true
}

// checkNode holds the bits of a node to its values; it tells whether there are any.
func (g grid) checkNode(t *testing.T, at int) bool {
	t.Helper()
	want, good := g.wantBits(at)
	got, ok := impl.NodeBits(g.Model, at)
	if ok != good || !slices.EqualFunc(got, want, sameBdd) {
		t.Fatal("bits", got, ok, "want", want, good, "of node", at, "in", g.Model)
	}
	return ok
}

// checkInits holds InitSet to InitFits at each state; it tells how many states there are in the set.
func (g grid) checkInits(t *testing.T) int {
	t.Helper()
	want := tableOf(g.stateBits, func(n int) bool {
		s, _ := g.moment(n)
		return impl.InitFits(g.Model, s)
	})
	b, ok := impl.InitSet(g.Model)
	wantBdd(t, b, ok, want, "where a run may begin", g.Model)
	return len(want.codes())
}

// checkProps holds HoldSet and BadSet to EvalHolds and EvalBad at each state and input; it tells how many of these there are in the sets.
func (g grid) checkProps(t *testing.T) (int, int) {
	t.Helper()
	holds := tableOf(g.vars, func(n int) bool {
		s, in := g.moment(n)
		return impl.EvalHolds(g.Model, s, in)
	})
	bads := tableOf(g.vars, func(n int) bool {
		s, in := g.moment(n)
		return holds[n] == 1 && impl.EvalBad(g.Model, s, in) != -1
	})
	b, ok := impl.HoldSet(g.Model)
	wantBdd(t, b, ok, holds, "what holds", g.Model)
	b, ok = impl.BadSet(g.Model)
	wantBdd(t, b, ok, bads, "what is bad", g.Model)
	return len(holds.codes()), len(bads.codes())
}

// checkNodes holds the bits of all nodes to their values.
func checkNodes(t *testing.T, m impl.Model) {
	t.Helper()
	g := gridOf(t, m)
	for at := range m.Nodes {
		g.checkNode(t, at)
	}
}

// kindLines puts behind the nodes of a text nodes of all kinds that reckon with words, of two nodes of one width.
func kindLines(text string, x int, y int, w int) string {
	add := func(words ...any) {
		text += strconv.Itoa(strings.Count(text, "\n"))
		for _, word := range words {
			if n, ok := word.(int); ok {
				word = strconv.Itoa(n)
			}
			text += " " + word.(string)
		}
		text += "\n"
	}
	for _, row := range kindRows() {
		switch row.kind {
		case impl.OpSlice:
			for _, cut := range [][2]int{{w - 1, 0}, {w - 1, w - 1}, {0, 0}, {w / 2, 0}, {w - 1, w / 2}} {
				add(row.word, x, cut[0], cut[1])
			}
		case impl.OpZext, impl.OpSext:
			for _, more := range list(0, min(1, impl.WordMax-w), impl.WordMax-w) {
				add(row.word, x, more)
			}
		case impl.OpJoin:
			if 2*w <= impl.WordMax {
				add(row.word, x, y)
			}
		case impl.OpRead, impl.OpPut, impl.OpIf:
		default:
			parts := []any{row.word, x, y}
			if row.parts > 0 {
				add(parts[:row.parts+1]...)
			}
		}
	}
	add("less", y, x)
	add("if", strings.Count(text, "\n")-1, x, y)
	return text
}

// wideLines are texts of words of a width from 6 on, the last two nodes: each is made of four bits of a state, that stand low, with their sign, or high.
func wideLines(w int) []string {
	var l []string
	base := "0 state 4 a\n1 state 4 b\n2 const " + strconv.Itoa(w-4) + " " + strconv.Itoa(power(w-5)-1) + "\n"
	shapes := func(at int) []string {
		a, more := strconv.Itoa(at), strconv.Itoa(w-4)
		return []string{" zext " + a + " " + more, " sext " + a + " " + more, " join " + a + " 2"}
	}
	for _, x := range shapes(0) {
		for _, y := range shapes(1) {
			l = append(l, base+"3"+x+"\n4"+y+"\n")
		}
	}
	return l
}

// brinkText has at 9 a bit of 600 nodes, if it is told 4144, and of 601, if it is told 4145. The bits of the word at 7 are small up to bit 10, and too large from there on.
func brinkText(than int) string {
	return "0 state 8 x\n1 input 5 y\n2 join 0 1\n3 zext 2 3\n4 const 16 31415\n5 mul 3 3\n6 mul 5 4\n7 add 6 3\n8 const 16 " + strconv.Itoa(than) + "\n9 less 7 8\n"
}

const (
	brinkMost  = 4144
	brinkAbove = 4145
)

// wantNoBits holds NodeBits to what it tells where there is nothing to tell.
func wantNoBits(t *testing.T, m impl.Model, at int, what ...any) {
	t.Helper()
	if l, ok := impl.NodeBits(m, at); ok || len(l) != 0 {
		t.Fatal(append([]any{"bits", l, ok, "of node", at, "in", m}, what...)...)
	}
}

// setMakers are the functions that tell a set of a model.
func setMakers() []func(m impl.Model) (impl.Bdd, bool) {
	return []func(m impl.Model) (impl.Bdd, bool){impl.InitSet, impl.HoldSet, impl.BadSet}
}

// roomyModel is a copy of a model, each list of which has spare room with marks in it.
func roomyModel(m impl.Model) impl.Model {
	bind := impl.Bind{State: 777, Node: 777}
	return impl.Model{
		Nodes: append(slices.Clone(m.Nodes), impl.Node{Kind: 777}, impl.Node{Kind: 777})[:len(m.Nodes)],
		Inits: append(slices.Clone(m.Inits), bind, bind)[:len(m.Inits)],
		Nexts: append(slices.Clone(m.Nexts), bind, bind)[:len(m.Nexts)],
		Bads:  append(slices.Clone(m.Bads), repeated(777, 9)...)[:len(m.Bads)],
		Holds: append(slices.Clone(m.Holds), repeated(777, 9)...)[:len(m.Holds)],
	}
}

// wholeModel is a model with the spare room of its lists as part of them.
func wholeModel(m impl.Model) impl.Model {
	return impl.Model{
		Nodes: m.Nodes[:cap(m.Nodes)], Inits: m.Inits[:cap(m.Inits)], Nexts: m.Nexts[:cap(m.Nexts)],
		Bads: m.Bads[:cap(m.Bads)], Holds: m.Holds[:cap(m.Holds)],
	}
}

package tests

import (
	"slices"
	"strconv"
	"strings"
	"testing"

	"loop.example/leadline/impl"
)

// P23: the bits of a node mean the node. P24: sets of states mean what the calls say. P46: a run can always begin.

// wantTexts holds the bits of a node to texts that are written by hand.
func wantTexts(t *testing.T, m impl.Model, at int, texts ...string) {
	t.Helper()
	l, ok := impl.NodeBits(m, at)
	var got []string
	for _, b := range l {
		got = append(got, impl.BddText(b))
	}
	if !ok || !slices.Equal(got, texts) {
		t.Fatalf("bits %q %v of node %d, want %q", got, ok, at, texts)
	}
}

// The state is the low bits of a number, though the input stands ahead of it in the model.
func TestP23BitsByHand(t *testing.T) {
	m := read(t, "0 input 1 go\n1 state 2 x\n2 zext 0 1\n3 add 1 2\n4 const 2 2\n5 eq 1 4\n6 less 4 3\n")
	wantTexts(t, m, 0, "set 3 2\n2 0 1\n")
	wantTexts(t, m, 1, "set 3 2\n0 0 1\n", "set 3 2\n1 0 1\n")
	wantTexts(t, m, 2, "set 3 2\n2 0 1\n", "set 3 0\n")
	wantTexts(t, m, 3, "set 3 4\n2 0 1\n2 1 0\n0 2 3\n", "set 3 6\n1 0 1\n2 0 1\n2 1 0\n1 3 4\n0 2 5\n")
	wantTexts(t, m, 4, "set 3 0\n", "set 3 1\n")
	wantTexts(t, m, 5, "set 3 3\n1 0 1\n0 2 0\n")
	// More than 2 is 3: x is 3 and stays, or is 2 and goes on.
	wantTexts(t, m, 6, "set 3 6\n2 0 1\n1 0 2\n2 1 0\n1 0 4\n0 3 5\n")
}

// Cells stand one behind another, bit 0 first; all states' bits are ahead of all inputs' bits.
func TestP23NumbersByHand(t *testing.T) {
	m := read(t, "0 input 1:1 two\n1 state 2 x\n2 input 2 i\n3 state 1:2 mem\n4 state 1 y\n")
	for at, vars := range [][]int{{7, 8}, {0, 1}, {9, 10}, {2, 3, 4, 5}, {6}} {
		var texts []string
		for _, v := range vars {
			texts = append(texts, "set 11 2\n"+strconv.Itoa(v)+" 0 1\n")
		}
		wantTexts(t, m, at, texts...)
	}
	m = read(t, "0 state 2:2 mem\n1 input 2:1 four\n")
	for at, bits := range list(8, 4) {
		var texts []string
		for i := range bits {
			texts = append(texts, "set 12 2\n"+strconv.Itoa(8*at+i)+" 0 1\n")
		}
		wantTexts(t, m, at, texts...)
	}
}

// Without states inputs begin with bit 0; without inputs there are no bits above those of states; without both there are none at all.
func TestP23NumbersOfModelsWithout(t *testing.T) {
	m := read(t, "0 const 1 1\n1 input 2 i\n2 all 1\n")
	wantTexts(t, m, 0, "set 2 1\n")
	wantTexts(t, m, 1, "set 2 2\n0 0 1\n", "set 2 2\n1 0 1\n")
	wantTexts(t, m, 2, "set 2 3\n1 0 1\n0 0 2\n")
	m = read(t, "0 const 1 1\n1 state 2 x\n2 any 1\n")
	wantTexts(t, m, 0, "set 2 1\n")
	wantTexts(t, m, 1, "set 2 2\n0 0 1\n", "set 2 2\n1 0 1\n")
	wantTexts(t, m, 2, "set 2 3\n1 0 1\n0 2 1\n")
	m = read(t, "0 const 3 5\n1 const 3 6\n2 add 0 1\n3 less 0 1\n4 mul 0 1\n")
	for at, bits := range []string{"101", "011", "110", "1", "011"} {
		var texts []string
		for _, b := range bits {
			texts = append(texts, "set 0 "+string(b)+"\n")
		}
		wantTexts(t, m, at, texts...)
	}
}

// All pairs of words up to six bits: of six bits one word is a state, and the other one a state joined with an input.
func TestP23EachKindOfAllWords(t *testing.T) {
	for w := 1; w <= 5; w++ {
		width := strconv.Itoa(w)
		checkNodes(t, read(t, kindLines("0 state "+width+" x\n1 input "+width+" y\n", 0, 1, w)))
	}
	checkNodes(t, read(t, kindLines("0 input 4 low\n1 state 6 x\n2 state 2 high\n3 join 2 0\n", 1, 3, 6)))
}

// Wider words, up to the widest: they are small, near the greatest, or far up, and so is what they are shifted and divided by.
func TestP23EachKindOfWideWords(t *testing.T) {
	for w := 6; w <= impl.WordMax; w++ {
		for _, text := range wideLines(w) {
			checkNodes(t, read(t, kindLines(text, 3, 4, w)))
		}
	}
}

// Words of as many bits as fit, of all the bits that states and inputs may have.
func TestP23EachKindOfTheMostBits(t *testing.T) {
	for _, text := range []string{
		"0 state 8 x\n1 input 5 y\n2 sext 0 8\n3 sext 1 11\n",
		"0 state 8 x\n1 input 5 y\n2 join 1 0\n3 sext 2 3\n4 join 0 0\n",
	} {
		at := strings.Count(text, "\n") - 1
		g := gridOf(t, read(t, kindLines(text, at, at-1, 16)))
		for i := range g.Nodes {
			g.checkNode(t, i)
		}
	}
}

// A word with itself, and with words that are the same at all states and inputs.
func TestP23EachKindOfAlikeWords(t *testing.T) {
	for _, w := range list(1, 2, 5, 8) {
		width := strconv.Itoa(w)
		base := "0 state " + width + " x\n1 input 1 i\n"
		checkNodes(t, read(t, kindLines(base, 0, 0, w)))
		for _, v := range list(0, 1, w%power(w), power(w-1), power(w)-1) {
			text := base + "2 const " + width + " " + strconv.Itoa(v) + "\n"
			checkNodes(t, read(t, kindLines(text, 0, 2, w)))
			checkNodes(t, read(t, kindLines(text, 2, 0, w)))
			checkNodes(t, read(t, kindLines(text, 2, 2, w)))
		}
	}
}

// By numbers: what is divided by 0, without signs and with them.
func TestP23DividedByNothing(t *testing.T) {
	m := read(t, "0 state 3 x\n1 input 1 i\n2 const 3 0\n3 div 0 2\n4 rem 0 2\n5 sdiv 0 2\n6 srem 0 2\n")
	all, none, sign := "set 4 1\n", "set 4 0\n", "set 4 2\n2 1 0\n"
	bits := []string{"set 4 2\n0 0 1\n", "set 4 2\n1 0 1\n", "set 4 2\n2 0 1\n"}
	wantTexts(t, m, 2, none, none, none)
	wantTexts(t, m, 3, all, all, all)
	wantTexts(t, m, 4, bits...)
	wantTexts(t, m, 5, all, sign, sign)
	wantTexts(t, m, 6, bits...)
}

// An array of four cells and all that is made of it, at all that they can be.
func TestP23Arrays(t *testing.T) {
	checkNodes(t, read(t, arrayText))
	checkNodes(t, read(t, "0 state 1:3 two\n1 input 1:1 small\n2 input 1 at\n3 input 1 go\n4 state 1 word\n5 not 2\n6 zext 4 2\n"+
		"7 read 0 2\n8 read 0 5\n9 put 0 2 6\n10 put 9 5 7\n11 eq 9 10\n12 if 3 9 10\n13 if 4 10 0\n14 eq 12 13\n"+
		"15 read 1 2\n16 put 1 15 4\n17 eq 1 16\n18 read 12 15\n19 eq 9 9\n20 if 17 0 0\n"))
}

// Cells that are told by constants: the first and the last one, of arrays of two and of four cells.
func TestP23FirstAndLastCell(t *testing.T) {
	m := read(t, "0 state 1:1 two\n1 input 2:1 four\n2 const 1 0\n3 const 1 1\n4 const 2 0\n5 const 2 3\n"+
		"6 read 0 2\n7 read 0 3\n8 read 1 4\n9 read 1 5\n10 put 0 2 3\n11 put 0 3 2\n12 put 1 4 3\n13 put 1 5 2\n")
	bits := func(vars ...int) []string {
		var l []string
		for _, v := range vars {
			l = append(l, "set 6 2\n"+strconv.Itoa(v)+" 0 1\n")
		}
		return l
	}
	none, all := "set 6 0\n", "set 6 1\n"
	for at, texts := range map[int][]string{
		6: bits(0), 7: bits(1), 8: bits(2), 9: bits(5),
		10: append([]string{all}, bits(1)...), 11: append(bits(0), none),
		12: append([]string{all}, bits(3, 4, 5)...), 13: append(bits(2, 3, 4), none),
	} {
		wantTexts(t, m, at, texts...)
	}
	checkNodes(t, m)
}

func TestP23MadeUpModels(t *testing.T) {
	tried := 0
	for _, m := range someModels() {
		if bitCount(m, impl.OpState)+bitCount(m, impl.OpInput) <= 9 {
			tried += len(m.Nodes)
			checkNodes(t, m)
		}
	}
	if tried < 5000 {
		t.Fatal("too few nodes", tried)
	}
}

// Some models with the most bits, and the model with a node of each kind.
func TestP23LargeModels(t *testing.T) {
	checkNodes(t, counterModel())
	checkNodes(t, impl.Model{Nodes: rightNodes()})
	left := 3
	for _, m := range someModels() {
		if left > 0 && len(m.Nodes) > 30 && bitCount(m, impl.OpState)+bitCount(m, impl.OpInput) == impl.BddVarsMax {
			left--
			checkNodes(t, m)
		}
	}
	wantInt(t, left, 0, "models of the most bits that were not met")
}

// As many nodes as there may be, each made of the one ahead of it.
func TestP23LongModels(t *testing.T) {
	for _, word := range []string{"add", "xor", "ror", "mul", "sub"} {
		var text strings.Builder
		text.WriteString("0 state 6 x\n1 input 3 i\n2 sext 1 3\n")
		for at := 3; at < impl.NodeMax; at++ {
			other := []int{at - 2, 0}[at%2]
			text.WriteString(strconv.Itoa(at) + " " + word + " " + strconv.Itoa(at-1) + " " + strconv.Itoa(other) + "\n")
		}
		g := gridOf(t, read(t, text.String()))
		g.checkNode(t, impl.NodeMax-1)
		g.checkNode(t, impl.NodeMax-2)
	}
}

func TestP24SetsByHand(t *testing.T) {
	base := "0 state 3 x\n1 const 3 0\n2 const 3 1\n3 const 3 5\n4 input 1 go\n5 add 0 2\n6 if 4 5 0\n7 eq 0 3\n8 const 3 2\n9 less 0 8\nnext 0 6\n"
	for _, c := range []struct{ more, init, hold, bad string }{
		{"", "set 3 1\n", "set 4 1\n", "set 4 0\n"},
		{"init 0 3\n", "set 3 4\n2 0 1\n1 2 0\n0 0 3\n", "set 4 1\n", "set 4 0\n"},
		{"bad 4\n", "set 3 1\n", "set 4 1\n", "set 4 2\n3 0 1\n"},
		{"hold 4\n", "set 3 1\n", "set 4 2\n3 0 1\n", "set 4 0\n"},
		{"bad 7\nhold 4\n", "set 3 1\n", "set 4 2\n3 0 1\n", "set 4 5\n3 0 1\n2 0 2\n1 3 0\n0 0 4\n"},
		{"bad 7\nhold 9\n", "set 3 1\n", "set 4 3\n2 1 0\n1 2 0\n", "set 4 0\n"},
		{"bad 9\nbad 4\nhold 9\nhold 4\n", "set 3 1\n", "set 4 4\n3 0 1\n2 2 0\n1 3 0\n", "set 4 4\n3 0 1\n2 2 0\n1 3 0\n"},
	} {
		m := read(t, base+c.more)
		for i, f := range setMakers() {
			b, ok := f(m)
			if want := []string{c.init, c.hold, c.bad}[i]; !ok || impl.BddText(b) != want {
				t.Fatalf("set %q %v, want %q of %q", impl.BddText(b), ok, want, c.more)
			}
		}
	}
}

func TestP24MadeUpModels(t *testing.T) {
	begin, hold, bad := 0, 0, 0
	for _, m := range someModels() {
		if bitCount(m, impl.OpState)+bitCount(m, impl.OpInput) > 10 {
			continue
		}
		g := bareGrid(m)
		some := func(count int, vars int) int { return flag(count > 0 && count < power(vars)) }
		begin += some(g.checkInits(t), g.stateBits)
		holds, bads := g.checkProps(t)
		hold += some(holds, g.vars)
		bad += some(bads, g.vars)
	}
	if begin < 50 || hold < 30 || bad < 20 {
		t.Fatal("too few sets that are neither empty nor all", begin, hold, bad)
	}
}

func TestP24LargeModels(t *testing.T) {
	left := 4
	for _, m := range someModels() {
		if left > 0 && len(m.Holds) > 0 && len(m.Bads) > 1 && bitCount(m, impl.OpState)+bitCount(m, impl.OpInput) == impl.BddVarsMax {
			left--
			g := bareGrid(m)
			g.checkInits(t)
			g.checkProps(t)
		}
	}
	wantInt(t, left, 0, "models of the most bits that were not met")
}

// Several inits: a word that is reckoned, a word for each cell of an array, and a state that none binds. Inputs count for nothing.
func TestP24WhereARunBegins(t *testing.T) {
	base := "0 input 2 i\n1 state 2 x\n2 state 1 y\n3 const 2 3\n4 const 2 2\n5 mul 3 4\n6 state 2:1 mem\n7 const 1 1\n8 less 5 3\n9 not 8\n10 const 1 0\n"
	for _, c := range []struct {
		inits string
		rule  func(x int, y int, mem int) bool
	}{
		{"", func(x int, y int, mem int) bool { return true }},
		{"init 1 5\n", func(x int, y int, mem int) bool { return x == 2 }},
		{"init 6 8\n", func(x int, y int, mem int) bool { return mem == 15 }},
		{"init 6 10\ninit 1 3\n", func(x int, y int, mem int) bool { return x == 3 && mem == 0 }},
		{"init 2 9\ninit 6 7\ninit 1 5\n", func(x int, y int, mem int) bool { return x == 2 && y == 0 && mem == 15 }},
		{"init 2 7\ninit 1 4\nhold 9\nbad 10\nnext 1 3\nnext 2 10\nnext 6 6\n", func(x int, y int, mem int) bool { return x == 2 && y == 1 }},
	} {
		m := read(t, base+c.inits)
		b, ok := impl.InitSet(m)
		wantBdd(t, b, ok, tableOf(7, func(n int) bool { return c.rule(n%4, n/4%2, n/8) }), c.inits)
		bareGrid(m).checkInits(t)
	}
	wide := read(t, "0 state 1:4 mem\n1 const 4 6\n2 input 5 i\ninit 0 1\n")
	b, ok := impl.InitSet(wide)
	wantBdd(t, b, ok, tableFrom(8, 6*16+6), "two cells of one word")
}

// All lists of up to two bads and two holds, of two bits of the state and one of the input, some there twice.
func TestP24BadsAndHolds(t *testing.T) {
	lists := [][]int{nil, {0}, {1}, {2}, {3}, {4}, {0, 1}, {2, 0}, {1, 1}, {4, 2}, {3, 0}, {0, 1, 2, 2}, {3, 2, 1, 0}}
	base := read(t, "0 state 1 x\n1 input 1 i\n2 state 1 y\n3 const 1 1\n4 xor 0 2\n")
	for _, bads := range lists {
		for _, holds := range lists {
			m := copyModel(base)
			m.Bads, m.Holds = bads, holds
			bits := func(n int) []int { return list(bit(n, 0), bit(n, 2), bit(n, 1), 1, (bit(n, 0)+bit(n, 1))%2) }
			all := tableOf(3, func(n int) bool {
				return !slices.ContainsFunc(holds, func(at int) bool { return bits(n)[at] == 0 })
			})
			met := tableOf(3, func(n int) bool {
				return all[n] == 1 && slices.ContainsFunc(bads, func(at int) bool { return bits(n)[at] == 1 })
			})
			b, ok := impl.HoldSet(m)
			wantBdd(t, b, ok, all, "holds", holds)
			b, ok = impl.BadSet(m)
			wantBdd(t, b, ok, met, "bads", bads, "holds", holds)
			bareGrid(m).checkProps(t)
		}
	}
}

// A bad that is met only where something does not hold is in no set.
func TestP24BadsWhereSomethingDoesNotHold(t *testing.T) {
	m := read(t, "0 state 3 x\n1 input 2 i\n2 const 3 5\n3 eq 0 2\n4 less 0 2\n5 any 1\n6 less 2 0\nbad 3\nhold 4\nhold 5\n")
	holds, bads := bareGrid(m).checkProps(t)
	wantInt(t, holds, 5*3, "what holds")
	wantInt(t, bads, 0, "what is bad")
	m.Bads = list(6, 3)
	_, bads = bareGrid(m).checkProps(t)
	wantInt(t, bads, 0, "what is bad of two")
	m.Holds = list(5)
	_, bads = bareGrid(m).checkProps(t)
	wantInt(t, bads, 3*3, "what is bad, where less must hold")
}

func TestP46ARunCanAlwaysBegin(t *testing.T) {
	bindings, free, without := 0, 0, 0
	for _, m := range someModels() {
		open := 0
		for _, at := range placesOf(m, impl.OpState) {
			if !isBound(m.Inits, at) {
				open += power(m.Nodes[at].Sort.Index) * m.Nodes[at].Sort.Width
			}
		}
		bindings += flag(len(m.Inits) > 1)
		free += flag(open > 0 && len(m.Inits) > 0)
		b, ok := impl.InitSet(m)
		if !ok || !impl.BddOk(b) || b.Vars != bitCount(m, impl.OpState) || impl.BddCount(b) != power(open) {
			t.Fatal("begins", b, ok, "want", power(open), "states of", m)
		}
		m.Inits = nil
		b, ok = impl.InitSet(m)
		if !ok || !sameBdd(b, impl.Bdd{Vars: bitCount(m, impl.OpState), Root: 1}) {
			t.Fatal("begins", b, ok, "without inits", m)
		}
		without += flag(len(m.Holds) > 0)
		m.Holds = nil
		b, ok = impl.HoldSet(m)
		if !ok || !sameBdd(b, impl.Bdd{Vars: bitCount(m, impl.OpState) + bitCount(m, impl.OpInput), Root: 1}) {
			t.Fatal("holds", b, ok, "where nothing must", m)
		}
	}
	if bindings < 30 || free < 50 || without < 100 {
		t.Fatal("too few models", bindings, free, without)
	}
}

// Models without states, without inputs, and without both: they begin with their one state, or with all of them.
func TestP46ModelsWithout(t *testing.T) {
	for _, c := range []struct {
		text   string
		states int
		vars   int
	}{
		{"", 0, 0},
		{"0 const 2 1\n", 0, 0},
		{"0 input 5 i\n1 any 0\nbad 1\n", 0, 5},
		{"0 state 8 x\n", 8, 8},
		{"0 state 2:2 x\n1 input 1:2 i\n", 8, 12},
		{"0 state 8 x\n1 input 5 i\n2 const 8 0\nnext 0 2\n", 8, 13},
	} {
		m := read(t, c.text)
		b, ok := impl.InitSet(m)
		if !ok || !sameBdd(b, impl.Bdd{Vars: c.states, Root: 1}) || impl.BddCount(b) != power(c.states) {
			t.Fatal("begins", b, ok, c.text)
		}
		b, ok = impl.HoldSet(m)
		if !ok || !sameBdd(b, impl.Bdd{Vars: c.vars, Root: 1}) || impl.BddCount(b) != power(c.vars) {
			t.Fatal("holds", b, ok, c.text)
		}
	}
}

// A run begins, whatever must hold there, or is bad.
func TestP46WhatMustHoldIsNotAsked(t *testing.T) {
	m := read(t, "0 state 2 x\n1 const 2 1\n2 const 1 0\n3 const 1 1\n4 input 1 i\ninit 0 1\nhold 2\nbad 3\nbad 2\n")
	b, ok := impl.InitSet(m)
	wantBdd(t, b, ok, tableFrom(2, 1), m)
	for _, f := range setMakers()[1:] {
		b, ok = f(m)
		wantBdd(t, b, ok, make(table, 8), "nothing holds")
	}
}

// Answers are new memory, no two diagrams of one share any, and nothing is written into a model or behind the end of its lists.
func TestP23MemoryIsKeptApart(t *testing.T) {
	models := []impl.Model{counterModel(), ringModel(t, "bad 9\nbad 10\nhold 1\nhold 9\n"), read(t, "0 state 2 x\n1 input 1 i\n2 const 2 3\n3 mul 0 2\n4 join 0 3\n5 slice 4 3 2\ninit 0 2\nhold 1\n")}
	for _, m := range models {
		roomy := roomyModel(m)
		kept := copyModel(wholeModel(roomy))
		for at := range m.Nodes {
			l, ok := impl.NodeBits(roomy, at)
			wantDiagramsApart(t, l)
			again, also := impl.NodeBits(m, at)
			if !ok || !also || len(again) != len(l) {
				t.Fatal("bits", l, ok, again, also)
			}
		}
		for _, f := range setMakers() {
			b, ok := f(roomy)
			want := copyBdd(b)
			wantDiagramsApart(t, []impl.Bdd{b})
			again, also := f(roomy)
			if !ok || !also || !sameBdd(again, want) {
				t.Fatal("set", want, ok, again, also)
			}
		}
		if !sameModel(wholeModel(roomy), kept) {
			t.Fatal("the model was written into", wholeModel(roomy), kept)
		}
		g := gridOf(t, roomy)
		for at := range m.Nodes {
			g.checkNode(t, at)
		}
	}
}

// wantDiagramsApart fails if two diagrams of an answer share memory, spare room included.
func wantDiagramsApart(t *testing.T, l []impl.Bdd) {
	t.Helper()
	for i, b := range l {
		room := b.Nodes[:cap(b.Nodes)]
		for j := range room {
			room[j] = impl.BddNode{Var: 1000 + i}
		}
	}
	for i, b := range l {
		for _, n := range b.Nodes[:cap(b.Nodes)] {
			wantInt(t, n.Var, 1000+i, "memory of diagram", i)
		}
	}
	room := l[:cap(l)]
	for i := range room {
		room[i] = impl.Bdd{Vars: 2000}
	}
}

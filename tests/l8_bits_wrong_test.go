package tests

import (
	"math"
	"strconv"
	"testing"

	"loop.example/leadline/impl"
)

// A node's bit of BddMax nodes is told, one of a node more is not; whichever of a node's bits is too large, none is told.
func TestP23LargestDiagrams(t *testing.T) {
	for than, nodes := range map[int]int{brinkMost: impl.BddMax, brinkAbove: impl.BddMax + 1} {
		for _, more := range []string{"", "10 not 9\n", "10 zext 9 3\n", "10 join 9 9\n", "10 const 2 1\n11 join 9 10\n", "10 const 2 1\n11 join 10 9\n", "10 join 1 9\n11 join 10 1\n"} {
			g := gridOf(t, read(t, brinkText(than)+more))
			wantInt(t, nodeCount(g.bitTable(9, 0, 0)), nodes, "nodes of the bit")
			for _, at := range list(9, len(g.Nodes)-1) {
				if g.checkNode(t, at) != (than == brinkMost) {
					t.Fatal("told, or not told", at, than, more)
				}
			}
		}
	}
}

// One cell that is too large is enough, whichever it is; what is read from the other one is told.
func TestP23CellsThatAreTooLarge(t *testing.T) {
	for _, than := range list(brinkMost, brinkAbove) {
		m := read(t, "0 state 1:4 mem\n1 input 5 y\n2 const 1 0\n3 const 1 1\n4 read 0 3\n5 read 0 2\n6 join 4 5\n7 join 6 1\n8 zext 7 3\n"+
			"9 const 16 31415\n10 mul 8 8\n11 mul 10 9\n12 add 11 8\n13 const 16 "+strconv.Itoa(than)+"\n14 less 12 13\n15 zext 14 3\n"+
			"16 put 0 2 15\n17 put 0 3 15\n18 read 16 2\n19 read 17 3\n20 read 16 3\n21 read 17 2\n22 put 16 2 5\n23 eq 22 0\n24 eq 16 16\n25 if 2 16 0\n")
		g := gridOf(t, m)
		for _, at := range list(14, 15, 16, 17, 18, 19) {
			if g.checkNode(t, at) != (than == brinkMost) {
				t.Fatal("told, or not told", at, than)
			}
		}
		for _, at := range list(20, 21, 22, 23, 24, 25) {
			if !g.checkNode(t, at) {
				t.Fatal("not told", at, than)
			}
		}
	}
}

// What a node is made of may be too large, where its own bits are not.
func TestP23PartsThatAreTooLarge(t *testing.T) {
	m := read(t, brinkText(brinkAbove)+"10 xor 9 9\n11 not 9\n12 or 9 11\n13 const 1 0\n14 and 9 13\n15 slice 7 10 0\n16 slice 7 11 0\n17 slice 7 11 11\n"+
		"18 const 16 5\n19 sub 7 7\n20 eq 7 7\n21 if 9 18 18\n22 less 7 19\n23 shl 7 8\n24 slice 7 0 0\n25 mul 7 19\n26 div 7 19\n27 rem 19 7\n28 neg 7\n29 slice 28 10 1\n"+
		"30 join 9 13\n31 slice 30 0 0\n32 if 13 7 18\n33 add 7 28\n34 const 16 16\n35 shr 7 34\n")
	g := gridOf(t, m)
	for _, at := range list(10, 12, 14, 15, 18, 19, 20, 21, 22, 23, 24, 25, 26, 27, 29, 31, 32, 33, 35) {
		if !g.checkNode(t, at) {
			t.Fatal("not told", at)
		}
	}
	for _, at := range list(7, 9, 11, 16, 17, 28, 30) {
		if g.checkNode(t, at) {
			t.Fatal("told", at)
		}
	}
}

// Sets of BddMax nodes, and of one more; a set may be small where what it is made of is too large.
func TestP24LargestDiagrams(t *testing.T) {
	more := "10 not 9\n11 const 8 7\n12 eq 0 11\n13 const 5 30\n14 less 1 13\n15 const 1 1\ninit 0 11\n"
	for _, c := range []struct {
		props string
		// Whether the sets are too large where the bit is.
		hold, bad bool
	}{
		{"", false, false},
		{"hold 9\n", true, false},
		{"bad 10\n", false, true},
		{"hold 15\nhold 9\nbad 9\nbad 9\n", true, true},
		{"hold 10\nbad 15\n", true, true},
		{"hold 9\nhold 10\nbad 15\n", false, false},
		{"bad 9\nbad 10\n", false, false},
		{"hold 9\nbad 10\n", true, false},
		{"hold 12\nbad 9\n", false, false},
		{"hold 9\nbad 12\n", true, false},
	} {
		for _, than := range list(brinkMost, brinkAbove) {
			if than == brinkMost && !c.hold && !c.bad {
				continue
			}
			g := bareGrid(read(t, brinkText(than)+more+c.props))
			wantInt(t, g.checkInits(t), 1, "where a run may begin")
			g.checkProps(t)
			for i, large := range []bool{false, c.hold, c.bad} {
				b, ok := setMakers()[i](g.Model)
				if ok == (large && than == brinkAbove) || large && len(b.Nodes) != impl.BddMax*flag(ok) {
					t.Fatal("set", i, len(b.Nodes), ok, than, c.props)
				}
			}
		}
	}
}

// noNodes are no places of a model's nodes.
func noNodes(m impl.Model) []int {
	n := len(m.Nodes)
	return append(farNumbers(), n, n+1, -n-1, impl.NodeMax, impl.NodeMax+1, 64, math.MinInt+n)
}

func TestP23NoSuchNode(t *testing.T) {
	models := append(someModels()[:60], read(t, "0 const 1 1\n"), read(t, brinkText(brinkAbove)))
	for _, m := range models {
		for _, at := range noNodes(m) {
			if at < 0 || at >= len(m.Nodes) {
				wantNoBits(t, m, at, "no such node")
			}
		}
	}
	// The first and the last node have bits.
	m := counterModel()
	for at, bits := range map[int]int{0: 3, len(m.Nodes) - 1: 1} {
		if l, ok := impl.NodeBits(m, at); !ok || len(l) != bits {
			t.Fatal("bits", l, ok, "of node", at)
		}
	}
}

// wantNoSets holds all functions to what they tell of a model that is not ok.
func wantNoSets(t *testing.T, m impl.Model, what ...any) {
	t.Helper()
	for at := range len(m.Nodes) + 1 {
		wantNoBits(t, m, at, what...)
	}
	for _, at := range noNodes(m) {
		wantNoBits(t, m, at, what...)
	}
	for _, f := range setMakers() {
		b, ok := f(m)
		wantNoBdd(t, b, ok, what...)
	}
}

func TestP24ModelsThatAreNotOk(t *testing.T) {
	for _, base := range []impl.Model{counterModel(), {Nodes: rightNodes()}} {
		for _, f := range setMakers() {
			if _, ok := f(base); !ok {
				t.Fatal("the model without a flaw")
			}
		}
	}
	base := counterModel()
	for _, f := range flaws() {
		m := copyModel(base)
		f.make(&m)
		wantNoSets(t, m, f.what)
	}
	for _, sorts := range [][2]impl.Sort{{words(9), words(1)}, {words(1), words(6)}, {words(14), words(5)}, {arrays(2, 16), words(1)}, {words(1), arrays(2, 16)}} {
		m := impl.Model{Nodes: []impl.Node{
			{Kind: impl.OpState, Sort: sorts[0], Name: "x"},
			{Kind: impl.OpInput, Sort: sorts[1], Name: "i"},
		}}
		wantCode(t, m, impl.ModelTooBig, sorts)
		wantNoSets(t, m, sorts)
	}
}

// Nothing is kept between calls: what was too large, or not ok, does not spoil what is right.
func TestP24NothingIsKept(t *testing.T) {
	above := read(t, brinkText(brinkAbove)+"bad 9\nhold 9\n")
	right := gridOf(t, ringModel(t, "bad 9\nhold 1\n"))
	wrong := counterModel()
	wrong.Bads = list(0)
	for range 3 {
		wantNoBits(t, above, 9, "a node more")
		for _, f := range setMakers()[1:] {
			b, ok := f(above)
			wantNoBdd(t, b, ok, "a node more")
		}
		wantNoSets(t, wrong, "a bad of three bits")
		for at := range right.Nodes {
			if !right.checkNode(t, at) {
				t.Fatal("not told", at)
			}
		}
		right.checkInits(t)
		right.checkProps(t)
	}
}

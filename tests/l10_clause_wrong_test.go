package tests

import (
	"math/rand/v2"
	"slices"
	"testing"

	"loop.example/leadline/impl"
)

// wrongCnf is clauses that are not ok, and why.
type wrongCnf struct {
	what string
	c    impl.Cnf
}

// noVariables are no numbers of variables.
func noVariables() []int {
	return append(farNumbers(), 0, impl.CnfVarsMax+1, impl.CnfVarsMax+2, impl.CnfClausesMax, -impl.CnfVarsMax, 64)
}

// noLiterals are no literals of that many variables.
func noLiterals(vars int) []int {
	return append(farNumbers()[2:], 0, vars+1, -vars-1, vars+2, -vars-2, 100, -100)
}

// wrongCnfs are clauses with one fault each; but for that some would hold of all numbers, some of one and some of none.
func wrongCnfs() []wrongCnf {
	var l []wrongCnf
	add := func(what string, vars int, clauses ...[]int) { l = append(l, wrongCnf{what, cnf(vars, clauses...)}) }
	for _, vars := range noVariables() {
		add("no clauses", vars)
		add("a clause without literals", vars, nil)
		add("clauses", vars, list(1), list(-1))
		add("clauses", vars, list(1), list(1, -1))
	}
	for vars := 1; vars <= impl.CnfVarsMax; vars++ {
		for _, count := range list(impl.CnfClausesMax+1, impl.CnfClausesMax+2, 1000) {
			add("too many clauses", vars, make([][]int, count)...)
			add("too many clauses", vars, slices.Repeat([][]int{{vars}}, count)...)
			add("too many clauses", vars, append(slices.Repeat([][]int{{1}}, count-1), list(-1))...)
			add("too many clauses", vars, slices.Repeat([][]int{{1, -1}}, count)...)
		}
		for _, clause := range noClauses(vars) {
			add("no clause", vars, clause)
			add("no clause behind others", vars, list(1), list(-1), clause)
			add("no clause ahead of others", vars, clause, list(1), list(-vars))
			add("no clause between others", vars, nil, clause, nil)
			add("no clause behind many", vars, append(slices.Repeat([][]int{{vars}}, impl.CnfClausesMax-1), clause)...)
		}
	}
	return l
}

// noClauses are no clauses of that many variables: one literal too many, or one that is none, at any place.
func noClauses(vars int) [][]int {
	l := [][]int{repeated(1, impl.CnfVarsMax+1), repeated(-vars, impl.CnfVarsMax+1), repeated(1, 1000), append(repeated(1, impl.CnfVarsMax), -1)}
	for _, literal := range noLiterals(vars) {
		l = append(l, list(literal), list(1, literal), list(literal, 1, -1), list(-1, literal, vars), append(repeated(1, impl.CnfVarsMax-1), literal))
	}
	return l
}

func TestP31ClausesThatAreNotOk(t *testing.T) {
	for _, w := range wrongCnfs() {
		if impl.CnfOk(w.c) {
			t.Fatal(w.what, "ok:", w.c)
		}
		if n, ok := impl.SatLeast(w.c); n != 0 || ok {
			t.Fatal(w.what, "the least", n, ok, w.c)
		}
		b, ok := impl.CnfSet(w.c)
		wantNoBdd(t, b, ok, w.what, w.c)
		for _, n := range append(farNumbers(), 0, 1, 2, 3, 1023, 1024) {
			if impl.CnfHolds(w.c, n) {
				t.Fatal(w.what, "holds of", n, w.c)
			}
		}
	}
}

func TestP32ClausesThatAreNotOk(t *testing.T) {
	for _, w := range wrongCnfs() {
		if core, ok := impl.SatCore(w.c); len(core) != 0 || ok {
			t.Fatal(w.what, "core", core, ok, w.c)
		}
	}
}

// Nothing, and no clash, though the given ones, or clauses, would clash.
func TestP33ClausesThatAreNotOk(t *testing.T) {
	for _, w := range wrongCnfs() {
		for _, given := range [][]int{nil, list(1), list(-1), list(1, -1), list(0), list(11)} {
			wantNoUnits(t, w.c, given)
		}
	}
}

func wantNoUnits(t *testing.T, c impl.Cnf, given []int) {
	t.Helper()
	if known, clash := impl.SatUnits(c, given); len(known) != 0 || clash {
		t.Fatal("known", known, clash, "of", c, given)
	}
}

// Given literals that are no such list: nothing, and no clash, whatever the clauses are.
func TestP33GivenThatAreNone(t *testing.T) {
	r := rand.New(rand.NewPCG(33, 7))
	for vars := 1; vars <= impl.CnfVarsMax; vars++ {
		for _, given := range noClauses(vars) {
			for _, c := range []impl.Cnf{cnf(vars), cnf(vars, nil), cnf(vars, list(1)), cnf(vars, list(1), list(-1)), madeUpCnf(r, vars, vars)} {
				wantNoUnits(t, c, given)
			}
		}
	}
}

// Each limit met exactly, and passed by one.
func TestP31LimitsOfClauses(t *testing.T) {
	for _, s := range []struct {
		c  impl.Cnf
		ok bool
	}{
		{impl.Cnf{}, false},
		{cnf(1), true},
		{cnf(impl.CnfVarsMax), true},
		{cnf(impl.CnfVarsMax + 1), false},
		{cnf(1, nil), true},
		{cnf(1, []int{}), true},
		{cnf(1, make([][]int, impl.CnfClausesMax)...), true},
		{cnf(1, make([][]int, impl.CnfClausesMax+1)...), false},
		{cnf(1, repeated(1, impl.CnfVarsMax)), true},
		{cnf(1, repeated(1, impl.CnfVarsMax+1)), false},
		{cnf(1, list(1, -1, 1, -1)), true},
		{cnf(1, list(1, -1, 1, -1), list(1, -1, 1, -1)), true},
		{cnf(1, list(2)), false},
		{cnf(1, list(-2)), false},
		{cnf(1, list(0)), false},
		{cnf(2, list(2), list(-2)), true},
		{cnf(2, list(2), list(-3)), false},
		{cnf(10, list(10, -10)), true},
		{cnf(10, list(10, -11)), false},
		{cnf(10, list(11, -10)), false},
		{cnf(9, list(10)), false},
	} {
		if impl.CnfOk(s.c) != s.ok {
			t.Fatal("ok", !s.ok, s.c)
		}
		if s.ok {
			checkLeast(t, s.c)
			checkHolds(t, s.c)
			checkCore(t, s.c)
			checkUnits(t, s.c, nil)
		}
	}
}

// No sets of clauses: of no bits, of too many, and diagrams that are not ok.
func TestP35NoSets(t *testing.T) {
	for root := range 2 {
		for _, vars := range append(noVariables(), noVars()...) {
			c, ok := impl.CnfOf(impl.Bdd{Vars: vars, Root: root})
			wantNoClauses(t, c, ok, vars, root)
		}
	}
	r := rand.New(rand.NewPCG(35, 4))
	for vars := impl.CnfVarsMax + 1; vars <= impl.BddVarsMax; vars++ {
		for i := range vars {
			// One clause would do.
			b, _ := impl.BddVar(vars, i)
			c, ok := impl.CnfOf(b)
			wantNoClauses(t, c, ok, b)
		}
		for _, l := range someTables(r, vars, 10) {
			c, ok := impl.CnfOf(set(t, l))
			wantNoClauses(t, c, ok, l.codes())
		}
	}
	for _, w := range wrongBdds(t) {
		c, ok := impl.CnfOf(w.b)
		wantNoClauses(t, c, ok, w.what, w.b)
	}
}

// roomyCnf is the same clauses, each list with spare room behind its end, in which there is something.
func roomyCnf(c impl.Cnf) impl.Cnf {
	spare := func(l []int) []int { return append(slices.Clone(l), 777, 778)[:len(l)] }
	clauses := make([][]int, 0, len(c.Clauses)+2)
	for _, clause := range c.Clauses {
		clauses = append(clauses, spare(clause))
	}
	clauses = append(clauses, spare(list(779)), spare(list(780)))
	return cnf(c.Vars, clauses[:len(c.Clauses)]...)
}

// wholeCnf is the clauses with all that is behind the lists' ends.
func wholeCnf(c impl.Cnf) impl.Cnf {
	whole := cnf(c.Vars)
	for _, clause := range c.Clauses[:cap(c.Clauses)] {
		whole.Clauses = append(whole.Clauses, clause[:cap(clause)])
	}
	return whole
}

func spoilList(l []int, mark int) {
	l = l[:cap(l)]
	for i := range l {
		l[i] = mark
	}
}

// Nothing is written into an argument, or behind its end, and no answer shares memory with one.
func TestP31MemoryIsKeptApart(t *testing.T) {
	r := rand.New(rand.NewPCG(31, 10))
	for round := range 300 {
		vars := 1 + round%impl.CnfVarsMax
		c := roomyCnf(madeUpCnf(r, vars, r.IntN(4*vars)))
		if round%3 == 0 {
			c = roomyCnf(cnf(vars, treeClauses(r, vars, min(power(vars), 20))...))
		}
		kept := copyCnf(wholeCnf(c))
		given := append(anyLiterals(r, vars, 2), 777)[:2]
		givenKept := slices.Clone(given[:cap(given)])
		for range 2 {
			checkLeast(t, c)
			checkCore(t, c)
			checkUnits(t, c, given)
			checkUnits(t, c, nil)
			core, _ := impl.SatCore(c)
			known, _ := impl.SatUnits(c, given)
			b, _ := impl.CnfSet(c)
			spoilList(core, 3000)
			spoilList(known, 3000)
			for i := range b.Nodes[:cap(b.Nodes)] {
				b.Nodes[:cap(b.Nodes)][i] = impl.BddNode{Var: 3000}
			}
			if !sameCnf(wholeCnf(c), kept) || !slices.Equal(given[:cap(given)], givenKept) {
				t.Fatal("an argument was written into", wholeCnf(c), kept, given[:cap(given)], givenKept)
			}
		}
	}
}

// Clauses that share memory are clauses as any others.
func TestP31ClausesOfOneMemory(t *testing.T) {
	l := list(3, -1, 2, 2, -3, 1, -2)
	c := cnf(3, l[:2], l[1:3], l[2:5], l[4:], l[:5], l[3:4:4])
	checkLeast(t, c)
	checkHolds(t, c)
	checkCore(t, c)
	checkUnits(t, c, l[1:2])
	c.Clauses = append(c.Clauses, l[6:])
	wantInt(t, checkLeast(t, c), 0, c)
	wantInt(t, checkCore(t, c), 2, c)
	if !slices.Equal(l, list(3, -1, 2, 2, -3, 1, -2)) {
		t.Fatal("written into", l)
	}
}

// No two lists of a set's clauses share memory, spare room included, and none is the set's.
func TestP35MemoryIsKeptApart(t *testing.T) {
	r := rand.New(rand.NewPCG(35, 5))
	for vars := 1; vars <= impl.CnfVarsMax; vars++ {
		for range 20 {
			l := modelsOf(vars, madeUpCnf(r, vars, r.IntN(5)).Clauses)
			b := set(t, l)
			b.Nodes = append(b.Nodes, impl.BddNode{Var: 777})[:len(b.Nodes)]
			nodes := slices.Clone(b.Nodes[:cap(b.Nodes)])
			c, ok := impl.CnfOf(b)
			if !ok {
				continue
			}
			want := copyCnf(c)
			for i, clause := range c.Clauses {
				spoilList(clause, 3000+i)
			}
			for i, clause := range c.Clauses {
				for _, literal := range clause[:cap(clause)] {
					wantInt(t, literal, 3000+i, "clauses share memory", c)
				}
			}
			for i := range c.Clauses[:cap(c.Clauses)] {
				c.Clauses[:cap(c.Clauses)][i] = nil
			}
			if again, _ := impl.CnfOf(b); !sameCnf(again, want) || !slices.Equal(b.Nodes[:cap(b.Nodes)], nodes) {
				t.Fatal("another answer", again, "want", want)
			}
		}
	}
}

// Nothing is kept between calls: what is wrong, clashes, or holds of nothing does not spoil what comes behind.
func TestP31NothingIsKept(t *testing.T) {
	r := rand.New(rand.NewPCG(31, 11))
	wrong := wrongCnfs()
	for round := range 100 {
		c := madeUpCnf(r, 1+round%impl.CnfVarsMax, r.IntN(30))
		checkLeast(t, c)
		checkCore(t, c)
		impl.SatLeast(wrong[r.IntN(len(wrong))].c)
		impl.SatUnits(wrong[r.IntN(len(wrong))].c, list(1))
		wantInt(t, checkUnits(t, c, list(1, -1)), -1, c)
		checkUnits(t, c, list(1))
		checkLeast(t, c)
		checkHolds(t, cnf(3, list(1, 2), list(-1, 3)))
	}
}

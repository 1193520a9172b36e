package tests

import (
	"math/rand/v2"
	"runtime"
	"slices"
	"sync"
	"testing"

	"loop.example/leadline/impl"
)

// P31: the least is a model, and nothing less is. P32: a core cannot hold, and nothing of it is needless.

// Numbers that were found by hand.
func TestP31ByHand(t *testing.T) {
	for _, s := range []struct {
		c     impl.Cnf
		codes []int
	}{
		{cnf(1), list(0, 1)},
		{cnf(3), list(0, 1, 2, 3, 4, 5, 6, 7)},
		{cnf(1, nil), nil},
		{cnf(1, list(1)), list(1)},
		{cnf(1, list(-1)), list(0)},
		{cnf(1, list(1), list(-1)), nil},
		{cnf(1, list(1, -1)), list(0, 1)},
		{cnf(1, list(1, 1)), list(1)},
		{cnf(2, list(1, 1), list(1, 1)), list(1, 3)},
		{cnf(2, list(2)), list(2, 3)},
		{cnf(2, list(-2, -2, -1)), list(0, 1, 2)},
		{cnf(2, list(1, 2)), list(1, 2, 3)},
		{cnf(2, list(1, 2), list(-1, -2)), list(1, 2)},
		{cnf(2, list(1, 2), list(-1, 2)), list(2, 3)},
		{cnf(2, list(1, 2), list(-1, 2), list(1, -2), list(-1, -2)), nil},
		{cnf(3, list(1, 2), list(-1, 3), list(-2)), list(5)},
		// With bit 0 the least number is 5, without it 2: what is least does not begin with bit 0 as 0 or as 1.
		{cnf(3, list(1, 2), list(-1, 3)), list(2, 5, 6, 7)},
		{cnf(3, list(1, 3), list(-1, -3), list(2, 3)), list(3, 4, 6)},
		{cnf(3, list(3, 1), list(3, 2)), list(3, 4, 5, 6, 7)},
		{cnf(10, list(10)), tableOf(10, func(n int) bool { return n >= 512 }).codes()},
		{cnf(10, list(-10), list(9, 8)), tableOf(10, func(n int) bool { return n >= 128 && n < 512 }).codes()},
	} {
		if !slices.Equal(modelsOf(s.c.Vars, s.c.Clauses).codes(), s.codes) {
			t.Fatal("the test's own numbers", s)
		}
		checkLeast(t, s.c)
		checkHolds(t, s.c)
		checkCore(t, s.c)
	}
}

// All lists of a few small clauses.
func TestP31SmallClauses(t *testing.T) {
	seen := map[bool]int{}
	check := func(c impl.Cnf) {
		seen[checkLeast(t, c) > 0]++
		checkHolds(t, c)
		checkCore(t, c)
	}
	eachCnf(1, smallClauses(1, 3), 3, check)
	eachCnf(2, smallClauses(2, 2), 3, check)
	eachCnf(3, smallClauses(3, 2), 2, check)
	if seen[true] < 3000 || seen[false] < 3000 {
		t.Fatal("too few of a kind", seen)
	}
}

// Clauses of all numbers of variables and of clauses: many, one, and no number of which they hold.
func TestP31MadeUpClauses(t *testing.T) {
	r := rand.New(rand.NewPCG(31, 1))
	var none, one, many int
	for round := range 6000 {
		vars := 1 + round%impl.CnfVarsMax
		count := r.IntN(impl.CnfClausesMax + 1)
		if round%3 > 0 {
			// Around so many clauses of three literals hold of one number or none.
			count = min(impl.CnfClausesMax, r.IntN(5*vars+10))
		}
		switch models := checkLeast(t, madeUpCnf(r, vars, count)); {
		case models == 0:
			none++
		case models == 1:
			one++
		default:
			many++
		}
	}
	if none < 1000 || one < 100 || many < 1000 {
		t.Fatal("too few of a kind", none, one, many)
	}
}

// Few numbers are left, so that the search must turn back often: no choice is told by one clause alone.
func TestP31SearchesThatTurnBack(t *testing.T) {
	r := rand.New(rand.NewPCG(31, 2))
	var none, few int
	for round := range 1500 {
		vars := 6 + round%5
		c := cnf(vars)
		for len(c.Clauses) < impl.CnfClausesMax && len(c.Clauses) < 5*vars+round%10 {
			c.Clauses = append(c.Clauses, evenClause(r, vars, 3))
		}
		if checkLeast(t, c) == 0 {
			none++
		} else {
			few++
		}
	}
	if none < 300 || few < 300 {
		t.Fatal("too few of a kind", none, few)
	}
	// Each bit is unlike the one below: two numbers are left, and none, if the first and the last must be alike.
	c := cnf(10)
	for v := 1; v < 10; v++ {
		c.Clauses = append(c.Clauses, list(v, v+1), list(-v-1, -v))
	}
	wantInt(t, checkLeast(t, c), 2, "alternating bits")
	least, _ := impl.SatLeast(c)
	wantInt(t, least, 0b0101010101, "alternating bits")
	c.Clauses = append(c.Clauses, list(1, -10), list(-1, 10))
	wantInt(t, checkLeast(t, c), 0, "the ring of bits")
	wantInt(t, checkCore(t, c), len(c.Clauses), "the ring of bits")
	// Three of two in two: of three pigeons two sit in one of two holes.
	c = cnf(6, list(1, 2), list(3, 4), list(5, 6), list(-1, -3), list(-1, -5), list(-3, -5), list(-2, -4), list(-2, -6), list(-4, -6))
	wantInt(t, checkLeast(t, c), 0, "pigeons")
	wantInt(t, checkCore(t, c), 9, "pigeons")
	c.Clauses = slices.Delete(c.Clauses, 4, 5)
	wantInt(t, checkLeast(t, c), 1, "pigeons")
	least, _ = impl.SatLeast(c)
	wantInt(t, least, 0b011001, "pigeons")
}

// Clauses that hold of one number, the least one and the greatest one among them, told in each order.
func TestP31OneNumber(t *testing.T) {
	r := rand.New(rand.NewPCG(31, 3))
	for vars := 1; vars <= impl.CnfVarsMax; vars++ {
		for _, n := range list(0, power(vars)-1, power(vars)/2, 1, r.IntN(power(vars)), r.IntN(power(vars))) {
			n %= power(vars)
			c := cnf(vars, oneNumber(vars, n)...)
			wantInt(t, checkLeast(t, c), 1, c)
			checkHolds(t, c)
			// The same without a clause of one literal but the first: each bit is told by the ones below.
			chain := cnf(vars)
			for v := range c.Clauses {
				var clause []int
				for _, ahead := range c.Clauses[:v] {
					clause = append(clause, -ahead[0])
				}
				chain.Clauses = append(chain.Clauses, append(clause, c.Clauses[v][0]))
			}
			for range 4 {
				chain = shuffledCnf(r, chain)
				wantInt(t, checkLeast(t, chain), 1, chain)
				least, _ := impl.SatLeast(chain)
				wantInt(t, least, n, chain)
			}
			// The same by clauses against all others, as many as there may be: the least number that is left.
			against := cnf(vars)
			for other := range min(n, impl.CnfClausesMax) {
				clause := slices.Concat(oneNumber(vars, power(vars)-1-other)...)
				against.Clauses = append(against.Clauses, clause)
			}
			checkLeast(t, against)
			least, _ := impl.SatLeast(against)
			wantInt(t, least, min(n, impl.CnfClausesMax), against)
		}
	}
}

// Clauses that hold of all numbers: none, and those with a literal and its opposite.
func TestP31AllNumbers(t *testing.T) {
	r := rand.New(rand.NewPCG(31, 4))
	for vars := 1; vars <= impl.CnfVarsMax; vars++ {
		for _, count := range list(0, 1, 2, impl.CnfClausesMax) {
			for _, size := range list(2, 3, impl.CnfVarsMax) {
				c := cnf(vars)
				for range count {
					clause := anyLiterals(r, vars, size)
					clause[0] = -clause[1]
					c.Clauses = append(c.Clauses, clause)
				}
				c = shuffledCnf(r, c)
				wantInt(t, checkLeast(t, c), power(vars), c)
				checkHolds(t, c)
				wantInt(t, checkCore(t, c), -1, c)
				// One literal is left to be told by the others.
				v := anyLiteral(r, vars)
				if count < impl.CnfClausesMax {
					c.Clauses = slices.Insert(c.Clauses, r.IntN(count+1), list(v))
					wantInt(t, checkLeast(t, c), power(vars-1), c)
				}
			}
		}
	}
}

// Clauses that hold of no number: one without literals at any place, and others that cannot be together.
func TestP31NoNumber(t *testing.T) {
	r := rand.New(rand.NewPCG(31, 5))
	for vars := 1; vars <= impl.CnfVarsMax; vars++ {
		for _, count := range list(1, 2, 7, impl.CnfClausesMax) {
			c := madeUpCnf(r, vars, count)
			c.Clauses[r.IntN(count)] = nil
			wantInt(t, checkLeast(t, c), 0, c)
			checkHolds(t, c)
			c.Clauses[r.IntN(count)] = []int{}
			wantInt(t, checkLeast(t, c), 0, c)
		}
		for v := 1; v <= vars; v++ {
			c := cnf(vars, list(v), list(-v))
			wantInt(t, checkLeast(t, c), 0, c)
			checkHolds(t, c)
			c = cnf(vars, repeated(-v, impl.CnfVarsMax), repeated(v, impl.CnfVarsMax))
			wantInt(t, checkLeast(t, c), 0, c)
		}
		for round := range 20 {
			count := min(power(vars), 1+r.IntN(impl.CnfClausesMax))
			if round == 0 {
				count = min(power(vars), impl.CnfClausesMax)
			}
			c := shuffledCnf(r, cnf(vars, treeClauses(r, vars, count)...))
			wantInt(t, checkLeast(t, c), 0, c)
			// Without one of them they hold of the numbers of its leaf alone.
			at := r.IntN(count)
			size := len(c.Clauses[at])
			c.Clauses = slices.Delete(c.Clauses, at, at+1)
			wantInt(t, checkLeast(t, c), power(vars-size), c)
		}
	}
}

// Each limit met exactly: as many variables, clauses and literals as there may be.
func TestP31LimitsMetExactly(t *testing.T) {
	r := rand.New(rand.NewPCG(31, 6))
	for vars := 1; vars <= impl.CnfVarsMax; vars++ {
		full := cnf(vars)
		for range impl.CnfClausesMax {
			full.Clauses = append(full.Clauses, anyLiterals(r, vars, impl.CnfVarsMax))
		}
		checkLeast(t, full)
		checkHolds(t, full)
		for _, literal := range list(1, -1, vars, -vars) {
			c := cnf(vars, slices.Repeat([][]int{repeated(literal, impl.CnfVarsMax)}, impl.CnfClausesMax)...)
			wantInt(t, checkLeast(t, c), power(vars-1), c)
			checkHolds(t, c)
			wantInt(t, checkUnits(t, c, repeated(literal, impl.CnfVarsMax)), 1, c)
			wantInt(t, checkUnits(t, c, repeated(-literal, impl.CnfVarsMax)), -1, c)
			// One number fewer in the last clause alone.
			c = copyCnf(c)
			c.Clauses[impl.CnfClausesMax-1] = repeated(-literal, impl.CnfVarsMax)
			wantInt(t, checkLeast(t, c), 0, c)
			wantInt(t, checkCore(t, c), 2, c)
		}
	}
}

// The least number and the set, by the calls alone: number by number.
func TestP31ByCnfHolds(t *testing.T) {
	r := rand.New(rand.NewPCG(31, 7))
	for round := range 60 {
		vars := 1 + round%impl.CnfVarsMax
		c := madeUpCnf(r, vars, r.IntN(3*vars+1))
		checkHolds(t, c)
		b, ok := impl.CnfSet(c)
		if !ok || b.Vars != vars {
			t.Fatal("no set", b, ok, c)
		}
		first := -1
		for n := range power(vars) {
			holds := impl.CnfHolds(c, n)
			if holds != impl.BddEval(b, n) {
				t.Fatal("the number", n, "of", c, b)
			}
			if holds && first < 0 {
				first = n
			}
		}
		least, ok := impl.SatLeast(c)
		if ok != (first >= 0) || least != max(first, 0) {
			t.Fatal("the least", least, ok, "want", first, c)
		}
		again, also := impl.BddLeast(b)
		if again != least || also != ok {
			t.Fatal("the set's least", again, also, "want", least, ok, c)
		}
	}
}

// In whatever order clauses and literals stand, and however often: the same numbers.
func TestP31OrderMeansNothing(t *testing.T) {
	r := rand.New(rand.NewPCG(31, 8))
	for round := range 400 {
		vars := 1 + round%impl.CnfVarsMax
		c := madeUpCnf(r, vars, r.IntN(impl.CnfClausesMax/2+1))
		least, ok := impl.SatLeast(c)
		b, _ := impl.CnfSet(c)
		for range 3 {
			other := shuffledCnf(r, c)
			other.Clauses = append(other.Clauses, other.Clauses...)
			again, also := impl.SatLeast(other)
			set, _ := impl.CnfSet(other)
			if again != least || also != ok || !sameBdd(set, b) {
				t.Fatal("another answer", again, also, "want", least, ok, "of", other)
			}
		}
	}
}

// Many calls at once, on one processor and on several: each has the answer that it has alone, and all are over when it is given.
func TestP31ManyAtOnce(t *testing.T) {
	r := rand.New(rand.NewPCG(31, 9))
	var l []impl.Cnf
	for round := range 60 {
		l = append(l, madeUpCnf(r, 1+round%impl.CnfVarsMax, r.IntN(40)))
	}
	for _, processors := range list(1, 2, 8) {
		before := runtime.GOMAXPROCS(processors)
		var calls sync.WaitGroup
		for range 4 {
			for _, c := range l {
				calls.Go(func() {
					want := append(modelsOf(c.Vars, c.Clauses).codes(), -1)[0]
					least, ok := impl.SatLeast(c)
					if ok != (want >= 0) || least != max(want, 0) {
						t.Error("the least", least, ok, "want", want, c)
					}
				})
			}
		}
		calls.Wait()
		runtime.GOMAXPROCS(before)
	}
}

// Cores of which one, some or all clauses are needed, and of which another order would leave others.
func TestP32ByHand(t *testing.T) {
	for _, s := range []struct {
		c    impl.Cnf
		core []int
	}{
		{cnf(1, nil), list(0)},
		{cnf(1, nil, nil), list(1)},
		{cnf(1, list(1), nil, list(-1)), list(1)},
		{cnf(1, nil, list(1), list(-1)), list(1, 2)},
		{cnf(1, list(1), list(-1), nil), list(2)},
		{cnf(1, list(1), list(-1)), list(0, 1)},
		{cnf(1, list(1), list(-1), list(1)), list(1, 2)},
		{cnf(1, list(1), list(1), list(-1)), list(1, 2)},
		{cnf(1, list(-1), list(1), list(-1), list(1)), list(2, 3)},
		{cnf(1, list(1, 1), list(-1, -1, -1)), list(0, 1)},
		{cnf(1, list(1, -1), list(1), list(-1), list(-1, 1)), list(1, 2)},
		{cnf(2, list(1), list(1, 2), list(-1), list(2)), list(0, 2)},
		{cnf(2, list(1, 2), list(1), list(-1), list(2)), list(1, 2)},
		{cnf(2, list(1, 2), list(-1, 2), list(1, -2), list(-1, -2)), list(0, 1, 2, 3)},
		{cnf(2, list(1, 2), list(-1, 2), list(1, -2), list(-1, -2), list(1)), list(1, 3, 4)},
		{cnf(2, list(1), list(1, 2), list(-1, 2), list(1, -2), list(-1, -2)), list(1, 2, 3, 4)},
		{cnf(2, list(2), list(1, 2), list(-1, 2), list(-1, -2), list(1, -2)), list(1, 2, 3, 4)},
		{cnf(3, list(1), list(-1, 2), list(-2, 3), list(-3), list(-3, -1)), list(0, 1, 2, 4)},
		{cnf(3, list(-3, -1), list(1), list(-1, 2), list(-2, 3), list(-3)), list(1, 2, 3, 4)},
		{cnf(3, list(3), list(-1), list(2), list(-2), list(1), list(-3)), list(2, 3)},
		{cnf(3, list(3), list(-3), list(2), list(-2), list(1), list(-1)), list(4, 5)},
	} {
		core, ok := impl.SatCore(s.c)
		if !ok || !slices.Equal(core, s.core) {
			t.Fatal("core", core, ok, "want", s.core, "of", s.c)
		}
		checkCore(t, s.c)
	}
	for _, c := range []impl.Cnf{cnf(1), cnf(10), cnf(1, list(1)), cnf(1, list(1, -1)), cnf(2, list(1, 2), list(-1, 2), list(1, -2)), cnf(3, list(1, 2), list(-1, 3), list(-2))} {
		if core, ok := impl.SatCore(c); ok || len(core) != 0 {
			t.Fatal("core", core, ok, "of", c)
		}
	}
}

// wantNeeded holds a core to the calls: its clauses hold of no number, and of one without any one of them.
func wantNeeded(t *testing.T, c impl.Cnf, core []int) {
	t.Helper()
	clauses := clausesAt(c, core)
	if n, ok := impl.SatLeast(cnf(c.Vars, clauses...)); ok || n != 0 {
		t.Fatal("the core holds of", n, core, c)
	}
	for at := range clauses {
		without := cnf(c.Vars, slices.Delete(slices.Clone(clauses), at, at+1)...)
		if n, ok := impl.SatLeast(without); !ok || !impl.CnfHolds(without, n) {
			t.Fatal("needless", core[at], "of", core, c)
		}
	}
	// What is left of the core alone is all of it.
	if again, ok := impl.SatCore(cnf(c.Vars, clauses...)); !ok || len(again) != len(core) {
		t.Fatal("the core's core", again, ok, "of", core, c)
	}
}

func TestP32MadeUpCores(t *testing.T) {
	r := rand.New(rand.NewPCG(32, 1))
	var none, all, some int
	sizes := map[int]bool{}
	for round := range 700 {
		vars := 1 + round%impl.CnfVarsMax
		c := madeUpCnf(r, vars, min(impl.CnfClausesMax, r.IntN(6*vars+6)))
		size := checkCore(t, c)
		if size < 0 {
			none++
			continue
		}
		core, _ := impl.SatCore(c)
		wantNeeded(t, c, core)
		sizes[size] = true
		if size == len(c.Clauses) {
			all++
		} else {
			some++
		}
	}
	if none < 100 || all < 3 || some < 100 || len(sizes) < 12 {
		t.Fatal("too few of a kind", none, all, some, sizes)
	}
}

// Of the clauses against a tree's leaves all are needed, up to as many as there may be.
func TestP32AllAreNeeded(t *testing.T) {
	r := rand.New(rand.NewPCG(32, 2))
	for vars := 1; vars <= impl.CnfVarsMax; vars++ {
		for _, count := range list(1, 2, 3, 4, 8, 16, 32, impl.CnfClausesMax-1, impl.CnfClausesMax) {
			if count > power(vars) {
				continue
			}
			c := shuffledCnf(r, cnf(vars, treeClauses(r, vars, count)...))
			wantInt(t, checkCore(t, c), count, c)
			core, _ := impl.SatCore(c)
			wantNeeded(t, c, core)
		}
	}
}

// Some are needed, among others that hold with each of them; the same clause twice is needed once, where it stands last.
func TestP32SomeAreNeeded(t *testing.T) {
	r := rand.New(rand.NewPCG(32, 3))
	moved := 0
	for round := range 150 {
		vars := 2 + round%(impl.CnfVarsMax-1)
		tree := treeClauses(r, vars, 1+r.IntN(min(power(vars), 20)))
		if round%3 == 0 {
			tree = treeClauses(r, vars, min(power(vars), 40))
		} else {
			tree = slices.Concat(tree, tree)
		}
		c := shuffledCnf(r, cnf(vars, append(tree, madeUpCnf(r, vars, 1+r.IntN(20)).Clauses...)...))
		checkCore(t, c)
		core, _ := impl.SatCore(c)
		wantNeeded(t, c, core)
		for _, place := range core {
			later := slices.IndexFunc(c.Clauses[place+1:], func(clause []int) bool { return slices.Equal(clause, c.Clauses[place]) })
			if later >= 0 {
				t.Fatal("stands again behind", place, core, c)
			}
		}
		// In the opposite order others may be left.
		back := copyCnf(c)
		slices.Reverse(back.Clauses)
		checkCore(t, back)
		other, _ := impl.SatCore(back)
		moved += flag(!sameClauses(clausesAt(c, core), clausesAt(back, other)))
	}
	if moved < 50 {
		t.Fatal("hardly another core", moved)
	}
}

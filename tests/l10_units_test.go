package tests

import (
	"math"
	"math/bits"
	"math/rand/v2"
	"slices"
	"testing"

	"loop.example/leadline/impl"
)

// P33: what follows clause by clause follows. P35: a set is its clauses.

func TestP33ByHand(t *testing.T) {
	three := cnf(3, list(1, 2), list(-1, 3), list(-2))
	square := cnf(2, list(1, 2), list(-1, 2), list(1, -2), list(-1, -2))
	for _, s := range []struct {
		c     impl.Cnf
		given []int
		known []int
		clash bool
	}{
		{cnf(1), nil, nil, false},
		{cnf(1), list(1), list(1), false},
		{cnf(3), list(3, -1, 2), list(-1, 2, 3), false},
		{three, nil, list(1, -2, 3), false},
		{three, []int{}, list(1, -2, 3), false},
		{three, list(3), list(1, -2, 3), false},
		{three, list(-2, -2, 1, -2), list(1, -2, 3), false},
		{three, list(-3), nil, true},
		{three, list(2), nil, true},
		{cnf(3, list(1, 2), list(-1, 3)), list(-2), list(1, -2, 3), false},
		{cnf(3, list(1, 2), list(-1, 3)), list(2), list(2), false},
		{cnf(3, list(1, 2), list(-1, 3)), list(-3), list(-1, 2, -3), false},
		// Given ones that stand twice, or are opposites of each other.
		{cnf(2), list(2, 2), list(2), false},
		{cnf(2), list(-2, 1, -2, 1), list(1, -2), false},
		{cnf(2), list(1, -1), nil, true},
		{cnf(2), list(-1, 1), nil, true},
		{cnf(2), list(1, 2, 1, 2, -1), nil, true},
		// A clause without literals clashes whatever is given.
		{cnf(1, nil), nil, nil, true},
		{cnf(1, nil), list(1), nil, true},
		{cnf(2, list(1), nil), list(2), nil, true},
		// A literal that stands twice is one; with its opposite nothing follows from the clause.
		{cnf(1, list(1, 1)), nil, list(1), false},
		{cnf(1, list(-1, -1, -1)), list(1), nil, true},
		{cnf(2, list(1, 2, 1, 2, 1)), list(-2), list(1, -2), false},
		{cnf(2, list(2, 2, 1)), list(-1), list(-1, 2), false},
		{cnf(1, list(1, -1)), nil, nil, false},
		{cnf(1, list(1, -1)), list(1), list(1), false},
		{cnf(1, list(1, -1)), list(-1), list(-1), false},
		{cnf(2, list(1, -1, 2)), list(-2), list(-2), false},
		{cnf(2, list(1, -1, 2)), list(-2, 1), list(1, -2), false},
		{cnf(2, list(-1, 2, 1), list(2, 1, 2)), list(-2), list(1, -2), false},
		// The same clause twice, and clauses that are met already.
		{cnf(2, list(1, 2), list(1, 2)), list(-1), list(-1, 2), false},
		{cnf(2, list(1, 2), list(2, 1)), list(1), list(1), false},
		// They cannot be together, but no clause alone says so.
		{square, nil, nil, false},
		{square, list(1), nil, true},
		{square, list(-2), nil, true},
		{cnf(3, square.Clauses...), list(3), list(3), false},
		// A clash at once, and one on the way.
		{cnf(3, list(-1, -2)), list(1, 2), nil, true},
		{cnf(3, list(-1, 2), list(-2, 3), list(-3, -1)), list(1), nil, true},
		{cnf(3, list(-1, 2), list(-1, 3), list(-2, -3)), list(1), nil, true},
		{cnf(3, list(-1, 2), list(-1, 3), list(-2, -3)), list(-1), list(-1), false},
		{cnf(3, list(-1, 2), list(-1, 3), list(-2, -3)), list(2, 3), nil, true},
		{cnf(3, list(-1, 2), list(-1, 3), list(-2, -3)), list(3), list(-1, -2, 3), false},
	} {
		known, clash := impl.SatUnits(s.c, s.given)
		if clash != s.clash || !slices.Equal(known, s.known) {
			t.Fatal("known", known, clash, "want", s.known, s.clash, "of", s.c, s.given)
		}
		checkUnits(t, s.c, s.given)
	}
}

// All lists of a few small clauses, with all lists of a few given literals.
func TestP33SmallClauses(t *testing.T) {
	seen := map[int]int{}
	all := func(vars int, size int, count int, givenSize int) {
		lists := smallClauses(vars, givenSize)
		eachCnf(vars, smallClauses(vars, size), count, func(c impl.Cnf) {
			for _, given := range lists {
				seen[checkUnits(t, c, given)]++
			}
		})
	}
	all(1, 3, 2, 3)
	all(2, 2, 2, 3)
	all(2, 3, 1, 2)
	all(3, 2, 2, 1)
	for size := -1; size <= 3; size++ {
		if seen[size] < 500 {
			t.Fatal("too few of a kind", seen)
		}
	}
}

func TestP33MadeUpClauses(t *testing.T) {
	r := rand.New(rand.NewPCG(33, 1))
	seen, more := map[int]int{}, 0
	for round := range 20000 {
		vars := 1 + round%impl.CnfVarsMax
		c := madeUpCnf(r, vars, r.IntN(3*vars+2))
		given := anyLiterals(r, vars, r.IntN(4))
		if round%4 == 0 {
			c = madeUpCnf(r, vars, r.IntN(vars+1))
			given = evenClause(r, vars, r.IntN(vars+1))
		}
		size := checkUnits(t, c, given)
		seen[size]++
		more += flag(size > len(given))
	}
	for size := -1; size <= impl.CnfVarsMax; size++ {
		if seen[size] < 10 {
			t.Fatal("too few of a kind", seen)
		}
	}
	if more < 2000 {
		t.Fatal("hardly anything follows", more)
	}
}

// By the calls: what the given ones and clauses hold of has all that is told; where it clashes there is no such number.
func TestP33ByCnfHolds(t *testing.T) {
	r := rand.New(rand.NewPCG(33, 2))
	var clashes, told int
	for round := range 200 {
		vars := 1 + round%7
		c := madeUpCnf(r, vars, r.IntN(2*vars+2))
		given := anyLiterals(r, vars, r.IntN(4))
		known, clash := impl.SatUnits(c, given)
		for n := range power(vars) {
			has := func(literal int) bool { return impl.CnfHolds(cnf(vars, list(literal)), n) }
			if !impl.CnfHolds(c, n) || slices.ContainsFunc(given, func(literal int) bool { return !has(literal) }) {
				continue
			}
			if clash {
				t.Fatal("a clash, but they hold of", n, c, given)
			}
			for _, literal := range known {
				if !has(literal) {
					t.Fatal("does not follow:", literal, c, given)
				}
			}
		}
		clashes += flag(clash)
		told += len(known)
	}
	if clashes < 40 || told < 100 {
		t.Fatal("too few of a kind", clashes, told)
	}
}

// eachOrder goes through all orders of the numbers below a count.
func eachOrder(count int, f func(order []int)) {
	var more func(order []int)
	more = func(order []int) {
		if len(order) == count {
			f(order)
			return
		}
		for at := range count {
			if !slices.Contains(order, at) {
				more(append(slices.Clone(order), at))
			}
		}
	}
	more(nil)
}

// chainOf is clauses of which each tells one literal more than the ones ahead, from the first literal on; each has all literals ahead, or only the last one.
func chainOf(literals []int, whole bool) [][]int {
	var l [][]int
	for i, literal := range literals[1:] {
		var clause []int
		for at, ahead := range literals[:i+1] {
			if whole || at == i {
				clause = append(clause, -ahead)
			}
		}
		l = append(l, append(clause, literal))
	}
	return l
}

// Chains that go through all clauses, in whatever order these stand.
func TestP33ChainsInAnyOrder(t *testing.T) {
	r := rand.New(rand.NewPCG(33, 3))
	for _, whole := range []bool{false, true} {
		literals := list(3, -1, 4, 2, -5, -6)
		l := chainOf(literals, whole)
		eachOrder(len(l), func(order []int) {
			c := cnf(6)
			for _, at := range order {
				c.Clauses = append(c.Clauses, l[at])
			}
			wantInt(t, checkUnits(t, c, literals[:1]), 6, c)
			wantInt(t, checkUnits(t, c, append(list(-literals[5]), literals[0])), -1, c)
			// Backwards only a chain of two literals each can be gone through.
			wantInt(t, checkUnits(t, c, list(-literals[5])), 1+5*flag(!whole), c)
		})
		for range 100 {
			literals := evenClause(r, impl.CnfVarsMax, impl.CnfVarsMax)
			c := shuffledCnf(r, cnf(impl.CnfVarsMax, chainOf(literals, whole)...))
			wantInt(t, checkUnits(t, c, literals[:1]), impl.CnfVarsMax, c)
			wantInt(t, checkUnits(t, c, literals[1:2]), impl.CnfVarsMax-1-8*flag(whole), c)
			wantInt(t, checkUnits(t, c, nil), 0, c)
			// The last clause takes back the first literal, or the one ahead of the last.
			for _, back := range list(-literals[0], -literals[8]) {
				other := shuffledCnf(r, cnf(impl.CnfVarsMax, append(c.Clauses, list(-literals[9], back))...))
				wantInt(t, checkUnits(t, other, literals[:1]), -1, other)
			}
			// With the first literal as a clause nothing need be given, and nothing be wanting.
			begun := shuffledCnf(r, cnf(impl.CnfVarsMax, append(c.Clauses, literals[:1])...))
			wantInt(t, checkUnits(t, begun, nil), impl.CnfVarsMax, begun)
			wantInt(t, checkUnits(t, begun, list(-literals[r.IntN(10)])), -1, begun)
		}
	}
}

// A chain through as many clauses as there may be, each told several times, and one that ends in a clash at the very last.
func TestP33LongChains(t *testing.T) {
	r := rand.New(rand.NewPCG(33, 4))
	for round := range 60 {
		literals := evenClause(r, impl.CnfVarsMax, impl.CnfVarsMax)
		c := cnf(impl.CnfVarsMax, chainOf(literals, round%2 == 0)...)
		for len(c.Clauses) < impl.CnfClausesMax-1 {
			// The same literals in another order, or some of them twice.
			clause := slices.Clone(c.Clauses[r.IntN(9)])
			clause = append(clause, clause...)[:min(2*len(clause), impl.CnfVarsMax)]
			c.Clauses = append(c.Clauses, clause)
		}
		c = shuffledCnf(r, c)
		for at := range impl.CnfVarsMax {
			checkUnits(t, c, literals[:at+1])
			checkUnits(t, c, literals[at:])
			checkUnits(t, c, list(-literals[at]))
		}
		wantInt(t, checkUnits(t, c, literals[:1]), impl.CnfVarsMax, c)
		var opposites []int
		for _, literal := range literals {
			opposites = append(opposites, -literal)
		}
		c.Clauses = append(c.Clauses, opposites)
		wantInt(t, checkUnits(t, shuffledCnf(r, c), literals[:1]), -1, c)
		wantInt(t, checkUnits(t, c, nil), 0, c)
	}
}

// As many given literals as a clause may have: of all variables, or one of them again and again.
func TestP33ManyGiven(t *testing.T) {
	r := rand.New(rand.NewPCG(33, 5))
	for vars := 1; vars <= impl.CnfVarsMax; vars++ {
		for range 40 {
			c := madeUpCnf(r, vars, r.IntN(vars+1))
			checkUnits(t, c, anyLiterals(r, vars, impl.CnfVarsMax))
			literal := anyLiteral(r, vars)
			checkUnits(t, c, repeated(literal, impl.CnfVarsMax))
			checkUnits(t, c, append(repeated(literal, impl.CnfVarsMax-1), -literal))
			given := evenClause(r, vars, vars)
			checkUnits(t, c, given)
			if n, _ := impl.SatLeast(c); impl.CnfHolds(c, n) {
				// All of a number's literals, of which the clauses hold, in any order.
				given = slices.Concat(oneNumber(vars, n)...)
				r.Shuffle(len(given), func(i int, j int) { given[i], given[j] = given[j], given[i] })
				wantInt(t, checkUnits(t, c, given), vars, c, given)
			}
		}
	}
}

// In whatever order clauses, literals and given ones stand: the same is known. What is known tells nothing more.
func TestP33OrderMeansNothing(t *testing.T) {
	r := rand.New(rand.NewPCG(33, 6))
	for round := range 2000 {
		vars := 1 + round%impl.CnfVarsMax
		c := madeUpCnf(r, vars, r.IntN(2*vars+2))
		given := anyLiterals(r, vars, r.IntN(3))
		known, clash := impl.SatUnits(c, given)
		again := slices.Clone(given)
		r.Shuffle(len(again), func(i int, j int) { again[i], again[j] = again[j], again[i] })
		other, also := impl.SatUnits(shuffledCnf(r, c), again)
		if also != clash || !slices.Equal(other, known) {
			t.Fatal("known", other, also, "want", known, clash, c, given)
		}
		if clash {
			continue
		}
		if other, also = impl.SatUnits(c, known); also || !slices.Equal(other, known) {
			t.Fatal("more is known", other, also, "than", known, c, given)
		}
		if !slices.IsSortedFunc(known, func(a int, b int) int { return max(a, -a) - max(b, -b) }) {
			t.Fatal("not by variables", known)
		}
	}
}

func TestP35ByHand(t *testing.T) {
	for _, s := range []struct {
		l       table
		clauses [][]int
	}{
		{table{1, 1}, nil},
		{table{0, 0}, [][]int{{}}},
		{table{0, 1}, [][]int{{1}}},
		{table{1, 0}, [][]int{{-1}}},
		{make(table, 1024), [][]int{{}}},
		{others(make(table, 1024)), nil},
		// Bit 1 alone is asked for.
		{table{0, 0, 1, 1}, [][]int{{2}}},
		{table{1, 1, 0, 0}, [][]int{{-2}}},
		{table{0, 0, 0, 1}, [][]int{{1}, {-1, 2}}},
		{table{1, 0, 0, 0}, [][]int{{1, -2}, {-1}}},
		{table{0, 1, 1, 0}, [][]int{{1, 2}, {-1, -2}}},
		{table{1, 0, 0, 1}, [][]int{{1, -2}, {-1, 2}}},
		// Each way to the shared node is told by itself.
		{met(most()), [][]int{{1, 2}, {1, -2, 3}, {-1, 2, 3}}},
		{tableFrom(3, 5), [][]int{{1}, {-1, 2, 3}, {-1, -2}}},
		// What does not hang on bit 1 does not tell it.
		{tableFrom(3, 1, 3, 4, 6), [][]int{{1, 3}, {-1, -3}}},
		{tableFrom(3, 0, 7), [][]int{{1, 2, -3}, {1, -2}, {-1, 2}, {-1, -2, 3}}},
	} {
		c, ok := impl.CnfOf(set(t, s.l))
		if !ok || c.Vars != tableVars(s.l) || !sameClauses(c.Clauses, s.clauses) {
			t.Fatal("clauses", c, ok, "want", s.clauses)
		}
		checkOf(t, s.l)
	}
}

func TestP35SmallSets(t *testing.T) {
	for vars := 1; vars <= 3; vars++ {
		for _, l := range allTables(vars) {
			if !checkOf(t, l) {
				t.Fatal("no clauses", l)
			}
		}
	}
}

// Sets of each number of bits: all numbers, none, one, all but one, those of one bit, and made up ones.
func TestP35SetsOfAllBits(t *testing.T) {
	r := rand.New(rand.NewPCG(35, 1))
	seen := map[bool]int{}
	for vars := 1; vars <= impl.CnfVarsMax; vars++ {
		none := make(table, power(vars))
		l := []table{none, others(none)}
		for _, n := range list(0, power(vars)-1, r.IntN(power(vars))) {
			l = append(l, none.toggled(n), others(none).toggled(n))
		}
		for i := range vars {
			l = append(l, tableOf(vars, func(n int) bool { return bit(n, i) == 1 }), tableOf(vars, func(n int) bool { return bit(n, i) == 0 }))
		}
		for _, s := range l {
			if !checkOf(t, s) {
				t.Fatal("no clauses", s.codes())
			}
		}
		for _, s := range someTables(r, vars, 60) {
			seen[checkOf(t, s)]++
		}
		for range 20 {
			seen[checkOf(t, modelsOf(vars, madeUpCnf(r, vars, r.IntN(6)).Clauses))]++
		}
	}
	if seen[true] < 400 || seen[false] < 40 {
		t.Fatal("too few of a kind", seen)
	}
}

// setOfWays is a set of seven bits or more that is left by so many ways.
func setOfWays(r *rand.Rand, vars int, count int) table {
	if vars == 7 {
		// Of these bits hardly any set has as many ways as that of the numbers with an odd number of bits: each number that it has not is one, which is no more where it has that, too.
		l := tableOf(vars, func(n int) bool { return bits.OnesCount(uint(n))%2 == 1 })
		missing := others(l).codes()
		for _, at := range r.Perm(len(missing))[count:] {
			l = l.toggled(missing[at])
		}
		return l
	}
	for {
		// Of so many pairs of numbers each is about one way, but where it has both.
		both := 1 - (0.5+r.Float64())*float64(count)/float64(power(vars-1))
		l := tableOf(vars, func(n int) bool { return r.Float64() < math.Sqrt(both) })
		if len(wantClauses(l)) == count {
			return l
		}
	}
}

// Sets with just as many ways as are allowed, and with one more and less.
func TestP35AsManyWaysAsAreAllowed(t *testing.T) {
	r := rand.New(rand.NewPCG(35, 2))
	for vars := 7; vars <= impl.CnfVarsMax; vars++ {
		for range 4 {
			for _, goal := range list(impl.CnfClausesMax-1, impl.CnfClausesMax, impl.CnfClausesMax+1) {
				l := setOfWays(r, vars, goal)
				wantInt(t, len(wantClauses(l)), goal, "the test's own ways")
				if checkOf(t, l) != (goal <= impl.CnfClausesMax) {
					t.Fatal("clauses of", goal, "ways", l.codes())
				}
				c, ok := impl.CnfOf(set(t, l))
				wantInt(t, len(c.Clauses), goal*flag(ok), "clauses")
			}
		}
	}
}

// Clauses, their set and its clauses: the same numbers, the same least one, and the same set again.
func TestP35ThereAndBack(t *testing.T) {
	r := rand.New(rand.NewPCG(35, 3))
	many := 0
	for round := range 500 {
		vars := 1 + round%impl.CnfVarsMax
		c := madeUpCnf(r, vars, r.IntN(8))
		b, ok := impl.CnfSet(c)
		if !ok {
			t.Fatal("no set of", c)
		}
		other, ok := impl.CnfOf(b)
		if !ok {
			continue
		}
		many++
		for n := range power(vars) {
			if impl.BddEval(b, n) != impl.CnfHolds(other, n) {
				t.Fatal("the number", n, "of", other, b)
			}
		}
		least, ok := impl.SatLeast(other)
		first, also := impl.BddLeast(b)
		if least != first || ok != also {
			t.Fatal("the least", least, ok, "want", first, also, other)
		}
	}
	if many < 200 {
		t.Fatal("too few", many)
	}
}

package tests

import (
	"bytes"
	"math/rand/v2"
	"slices"
	"testing"

	"loop.example/leadline/impl"
)

// cnf is clauses of that many variables.
func cnf(vars int, clauses ...[]int) impl.Cnf { return impl.Cnf{Vars: vars, Clauses: clauses} }

func copyCnf(c impl.Cnf) impl.Cnf {
	c.Clauses = slices.Clone(c.Clauses)
	for i, clause := range c.Clauses {
		c.Clauses[i] = slices.Clone(clause)
	}
	return c
}

func sameClauses(a [][]int, b [][]int) bool { return slices.EqualFunc(a, b, slices.Equal[[]int]) }

func sameCnf(a impl.Cnf, b impl.Cnf) bool {
	return a.Vars == b.Vars && sameClauses(a.Clauses, b.Clauses)
}

// clauseTable is the set of the numbers of which a clause holds.
func clauseTable(vars int, clause []int) table {
	var one, zero int
	for _, literal := range clause {
		if literal > 0 {
			one |= power(literal - 1)
		} else {
			zero |= power(-literal - 1)
		}
	}
	return tableOf(vars, func(n int) bool { return n&one != 0 || n&zero != zero })
}

// modelsOf is the set of the numbers of which all clauses hold.
func modelsOf(vars int, clauses [][]int) table {
	all := others(make(table, power(vars)))
	for _, clause := range clauses {
		for n, holds := range clauseTable(vars, clause) {
			all[n] &= holds
		}
	}
	return all
}

// isEmpty says whether a set has no number.
func (l table) isEmpty() bool { return !bytes.Contains(l, []byte{1}) }

// wantCore is the core of clauses, by all numbers.
func wantCore(c impl.Cnf) ([]int, bool) {
	if !modelsOf(c.Vars, c.Clauses).isEmpty() {
		return nil, false
	}
	var places []int
	for place := range c.Clauses {
		places = append(places, place)
	}
	for place := range c.Clauses {
		left := slices.DeleteFunc(slices.Clone(places), func(at int) bool { return at == place })
		if modelsOf(c.Vars, clausesAt(c, left)).isEmpty() {
			places = left
		}
	}
	return places, true
}

func clausesAt(c impl.Cnf, places []int) [][]int {
	var l [][]int
	for _, place := range places {
		l = append(l, c.Clauses[place])
	}
	return l
}

// wantUnits is what follows from given literals, looked for in all clauses again and again.
func wantUnits(c impl.Cnf, given []int) ([]int, bool) {
	known := map[int]bool{}
	for _, literal := range given {
		known[literal] = true
	}
	for before := -1; before != len(known); {
		before = len(known)
		for _, clause := range c.Clauses {
			open := map[int]bool{}
			for _, literal := range clause {
				if !known[-literal] {
					open[literal] = true
				}
			}
			if len(open) == 0 {
				return nil, true
			}
			for literal := range open {
				if len(open) == 1 {
					known[literal] = true
				}
			}
		}
	}
	var l []int
	for v := 1; v <= c.Vars; v++ {
		if known[v] && known[-v] {
			return nil, true
		}
		for _, literal := range list(v, -v) {
			if known[literal] {
				l = append(l, literal)
			}
		}
	}
	return l, false
}

// wantClauses are the clauses of a set: one for each way by which it is left.
func wantClauses(l table) [][]int { return waysOut(l, 1, nil) }

// waysOut are the ways by which a set is left, all behind a way on which only variables ahead of v were asked.
func waysOut(l table, v int, way []int) [][]int {
	if l.isEmpty() {
		return [][]int{way}
	}
	if others(l).isEmpty() {
		return nil
	}
	halves := l.halves()
	if bytes.Equal(halves[0], halves[1]) {
		return waysOut(halves[0], v+1, way)
	}
	lo := waysOut(halves[0], v+1, append(slices.Clone(way), v))
	return append(lo, waysOut(halves[1], v+1, append(slices.Clone(way), -v))...)
}

// checkLeast holds the least number and the set of clauses to all numbers, and tells how many there are.
func checkLeast(t *testing.T, c impl.Cnf) int {
	t.Helper()
	want := modelsOf(c.Vars, c.Clauses)
	if !impl.CnfOk(c) {
		t.Fatal("not ok:", c)
	}
	codes := want.codes()
	least, ok := impl.SatLeast(c)
	if ok != (len(codes) > 0) || least != append(codes, 0)[0] {
		t.Fatal("the least", least, ok, "of", codes, c)
	}
	b, ok := impl.CnfSet(c)
	wantBdd(t, b, ok, want, c)
	return len(codes)
}

// checkHolds holds each number of clauses, and what is no number of them, to their set.
func checkHolds(t *testing.T, c impl.Cnf) {
	t.Helper()
	want := modelsOf(c.Vars, c.Clauses)
	for n := range want {
		if impl.CnfHolds(c, n) != (want[n] == 1) {
			t.Fatal("the number", n, "of", c)
		}
	}
	for _, n := range noCodes(c.Vars) {
		if impl.CnfHolds(c, n) {
			t.Fatal("no number", n, "of", c)
		}
	}
}

// checkCore holds the core of clauses to all numbers, and tells how many clauses it has, -1 if there is none.
func checkCore(t *testing.T, c impl.Cnf) int {
	t.Helper()
	want, isCore := wantCore(c)
	core, ok := impl.SatCore(c)
	if ok != isCore || !slices.Equal(core, want) {
		t.Fatal("core", core, ok, "want", want, isCore, "of", c)
	}
	if !ok {
		return -1
	}
	return len(core)
}

// checkUnits holds what follows from given literals to a look at all clauses, and to all numbers; it tells how many literals are known, -1 of a clash.
func checkUnits(t *testing.T, c impl.Cnf, given []int) int {
	t.Helper()
	want, clashes := wantUnits(c, given)
	known, clash := impl.SatUnits(c, given)
	if clash != clashes || !slices.Equal(known, want) {
		t.Fatal("known", known, clash, "want", want, clashes, "of", c, given)
	}
	models := modelsOf(c.Vars, c.Clauses)
	for _, literal := range given {
		models = binaries()[0].table(models, clauseTable(c.Vars, list(literal)))
	}
	if clash {
		if !models.isEmpty() {
			t.Fatal("a clash, but they hold of", models.codes(), c, given)
		}
		return -1
	}
	for _, literal := range known {
		if !binaries()[0].table(models, clauseTable(c.Vars, list(-literal))).isEmpty() {
			t.Fatal("does not follow:", literal, c, given)
		}
	}
	return len(known)
}

// checkOf holds the clauses of a set to the ways by which it is left, and says whether there are any such.
func checkOf(t *testing.T, l table) bool {
	t.Helper()
	want := cnf(tableVars(l), wantClauses(l)...)
	b := set(t, l)
	c, ok := impl.CnfOf(b)
	if len(want.Clauses) > impl.CnfClausesMax {
		wantNoClauses(t, c, ok, b)
		return false
	}
	if !ok || !sameCnf(c, want) {
		t.Fatal("clauses", c, ok, "want", want, "of", b)
	}
	if !bytes.Equal(modelsOf(c.Vars, c.Clauses), l) || !impl.CnfOk(c) {
		t.Fatal("other numbers", c, "of", b)
	}
	again, ok := impl.CnfSet(c)
	if !ok || !sameBdd(again, b) {
		t.Fatal("another set", again, ok, "of", c, b)
	}
	return true
}

func wantNoClauses(t *testing.T, c impl.Cnf, ok bool, what ...any) {
	t.Helper()
	if ok || !sameCnf(c, impl.Cnf{}) {
		t.Fatal(append([]any{"not refused:", c, ok, "of"}, what...)...)
	}
}

// smallClauses are all clauses of at most so many literals.
func smallClauses(vars int, size int) [][]int {
	l := [][]int{nil}
	for from := 0; size > 0; size-- {
		to := len(l)
		for _, clause := range l[from:to] {
			for v := 1; v <= vars; v++ {
				l = append(l, append(slices.Clone(clause), v), append(slices.Clone(clause), -v))
			}
		}
		from = to
	}
	return l
}

// eachCnf goes through all lists of at most so many of some clauses.
func eachCnf(vars int, from [][]int, count int, f func(c impl.Cnf)) {
	var more func(c impl.Cnf)
	more = func(c impl.Cnf) {
		f(c)
		for _, clause := range from {
			if len(c.Clauses) < count {
				more(cnf(vars, append(slices.Clone(c.Clauses), clause)...))
			}
		}
	}
	more(cnf(vars))
}

// anyLiteral is a literal of that many variables.
func anyLiteral(r *rand.Rand, vars int) int { return (1 + r.IntN(vars)) * (1 - 2*r.IntN(2)) }

// anyLiterals are so many of them; one may stand there several times, with its opposite, too.
func anyLiterals(r *rand.Rand, vars int, count int) []int {
	var l []int
	for range count {
		l = append(l, anyLiteral(r, vars))
	}
	return l
}

// evenClause has that many variables, each once.
func evenClause(r *rand.Rand, vars int, size int) []int {
	var l []int
	for _, v := range r.Perm(vars)[:min(size, vars)] {
		l = append(l, (v+1)*(1-2*r.IntN(2)))
	}
	return l
}

// madeUpCnf is clauses of one of many shapes: of like size, of any size, and those of which some are told twice.
func madeUpCnf(r *rand.Rand, vars int, count int) impl.Cnf {
	c := cnf(vars)
	size, shape := 2+r.IntN(3), r.IntN(4)
	for len(c.Clauses) < count {
		clause := evenClause(r, vars, size)
		switch {
		case shape == 1:
			clause = anyLiterals(r, vars, r.IntN(impl.CnfVarsMax+1))
		case shape == 2 && r.IntN(3) == 0:
			clause = anyLiterals(r, vars, 1+r.IntN(3))
		case shape == 3 && len(c.Clauses) > 0 && r.IntN(2) == 0:
			clause = slices.Clone(c.Clauses[r.IntN(len(c.Clauses))])
			r.Shuffle(len(clause), func(i int, j int) { clause[i], clause[j] = clause[j], clause[i] })
		}
		c.Clauses = append(c.Clauses, clause)
	}
	return c
}

// shuffledCnf is the same clauses in another order, each with its literals in another order.
func shuffledCnf(r *rand.Rand, c impl.Cnf) impl.Cnf {
	c = copyCnf(c)
	r.Shuffle(len(c.Clauses), func(i int, j int) { c.Clauses[i], c.Clauses[j] = c.Clauses[j], c.Clauses[i] })
	for _, clause := range c.Clauses {
		r.Shuffle(len(clause), func(i int, j int) { clause[i], clause[j] = clause[j], clause[i] })
	}
	return c
}

// treeClauses are that many clauses of which no number has all, and all but each one hold of some number: the clauses against the leaves of a tree.
func treeClauses(r *rand.Rand, vars int, count int) [][]int {
	l := [][]int{nil}
	for len(l) < count {
		at := r.IntN(len(l))
		if len(l[at]) == vars {
			continue
		}
		v := 1 + r.IntN(vars)
		for slices.Contains(l[at], v) || slices.Contains(l[at], -v) {
			v = v%vars + 1
		}
		l = append(l, append(slices.Clone(l[at]), -v))
		l[at] = append(slices.Clone(l[at]), v)
	}
	return l
}

// oneNumber are clauses that hold of one number alone.
func oneNumber(vars int, n int) [][]int {
	var l [][]int
	for v := 1; v <= vars; v++ {
		l = append(l, list(v*(2*bit(n, v-1)-1)))
	}
	return l
}

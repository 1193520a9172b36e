package tests

import (
	"math/rand/v2"
	"slices"
	"testing"

	"loop.example/leadline/impl"
)

// P26: sets obey the laws of sets, and one set has one diagram. P50: a choice of sets is chosen number by number.

func TestP26Constants(t *testing.T) {
	got := list(impl.BddVarsMax, impl.BddMax, impl.CodesMax)
	if !slices.Equal(got, list(13, 600, 256)) {
		t.Fatal("constants", got)
	}
}

// The texts are written by hand.
func TestP26DiagramsByHand(t *testing.T) {
	for _, c := range []struct {
		vars  int
		codes []int
		text  string
	}{
		{0, nil, "set 0 0\n"},
		{0, list(0), "set 0 1\n"},
		{1, list(0), "set 1 2\n0 1 0\n"},
		{1, list(1), "set 1 2\n0 0 1\n"},
		{1, list(0, 1), "set 1 1\n"},
		{2, list(2, 3), "set 2 2\n1 0 1\n"},
		{2, list(1, 2), "set 2 4\n1 0 1\n1 1 0\n0 2 3\n"},
		{2, list(0, 3), "set 2 4\n1 1 0\n1 0 1\n0 2 3\n"},
		{3, list(6), "set 3 4\n2 0 1\n1 0 2\n0 3 0\n"},
		{3, list(5, 6, 7), "set 3 4\n2 0 1\n1 0 2\n0 3 2\n"},
		{3, list(4, 6, 7), "set 3 4\n2 0 1\n1 0 2\n0 2 3\n"},
		{3, list(3, 5, 6, 7), "set 3 5\n2 0 1\n1 0 2\n1 2 1\n0 3 4\n"},
		{3, list(1, 3, 4, 7), "set 3 6\n2 0 1\n1 2 0\n2 1 0\n1 4 1\n0 3 5\n"},
		{13, list(8191), "set 13 14\n12 0 1\n11 0 2\n10 0 3\n9 0 4\n8 0 5\n7 0 6\n6 0 7\n5 0 8\n4 0 9\n3 0 10\n2 0 11\n1 0 12\n0 0 13\n"},
	} {
		want := diagram(tableFrom(c.vars, c.codes...))
		b, ok := impl.BddFrom(c.vars, c.codes)
		if !ok || !impl.BddOk(b) || !sameBdd(b, want) || impl.BddText(b) != c.text {
			t.Fatalf("%v: got %v %v, want %q", c.codes, b, ok, c.text)
		}
	}
}

// checkOne holds all that is told of one set to its numbers, one by one.
func checkOne(t *testing.T, l table) {
	t.Helper()
	b, codes := set(t, l), l.codes()
	for n := range l {
		wantInt(t, flag(impl.BddEval(b, n)), int(l[n]), "the number", n, "of", b)
	}
	wantInt(t, impl.BddCount(b), len(codes), "the count of", b)
	first, ok := impl.BddLeast(b)
	if ok != (len(codes) > 0) || first != append(codes, 0)[0] {
		t.Fatal("the least", first, ok, "of", b)
	}
	for i := range b.Vars {
		if impl.BddUses(b, i) != usesBit(l, i) {
			t.Fatal("uses", i, b)
		}
	}
	other, ok := impl.BddNot(b)
	wantBdd(t, other, ok, others(l), "not", b)
}

func TestP26OneSet(t *testing.T) {
	for vars := range 4 {
		for _, l := range allTables(vars) {
			checkOne(t, l)
		}
	}
	r := rand.New(rand.NewPCG(26, 1))
	for vars := 4; vars <= impl.BddVarsMax; vars++ {
		for _, l := range someTables(r, vars, 40-3*vars) {
			checkOne(t, l)
		}
	}
}

func checkTwo(t *testing.T, a table, b table) {
	t.Helper()
	for _, p := range binaries() {
		got, ok := p.f(set(t, a), set(t, b))
		wantBdd(t, got, ok, p.table(a, b), p.word, a, b)
	}
}

func TestP26TwoSets(t *testing.T) {
	for vars := range 3 {
		for _, a := range allTables(vars) {
			for _, b := range allTables(vars) {
				checkTwo(t, a, b)
			}
		}
	}
	r := rand.New(rand.NewPCG(26, 2))
	for _, a := range allTables(3) {
		for _, b := range someTables(r, 3, 8) {
			checkTwo(t, a, b)
		}
	}
	for vars := 4; vars <= impl.BddVarsMax; vars++ {
		for range 80 - 5*vars {
			l := someTables(r, vars, 2)
			checkTwo(t, l[0], l[1])
		}
	}
}

// calls makes sets by the calls, none of which may be too large.
type calls struct {
	t *testing.T
}

func (c calls) right(b impl.Bdd, ok bool) impl.Bdd {
	c.t.Helper()
	if !ok || !impl.BddOk(b) {
		c.t.Fatal("no set:", b, ok)
	}
	return b
}

func (c calls) and(a impl.Bdd, b impl.Bdd) impl.Bdd { return c.right(impl.BddAnd(a, b)) }
func (c calls) or(a impl.Bdd, b impl.Bdd) impl.Bdd  { return c.right(impl.BddOr(a, b)) }
func (c calls) xor(a impl.Bdd, b impl.Bdd) impl.Bdd { return c.right(impl.BddXor(a, b)) }
func (c calls) not(a impl.Bdd) impl.Bdd             { return c.right(impl.BddNot(a)) }
func (c calls) constant(vars int, yes bool) impl.Bdd {
	return c.right(impl.BddConst(vars, yes))
}

// The laws are asked of the calls alone: one set that is made in two ways is one diagram.
func TestP26Laws(t *testing.T) {
	r := rand.New(rand.NewPCG(26, 3))
	c := calls{t}
	for round := range 1400 {
		vars := round % 7
		l := someTables(r, vars, 3)
		x, y, z := set(t, l[0]), set(t, l[1]), set(t, l[2])
		none, all := c.constant(vars, false), c.constant(vars, true)
		for i, law := range [][2]impl.Bdd{
			{c.and(x, y), c.and(y, x)},
			{c.or(x, y), c.or(y, x)},
			{c.xor(x, y), c.xor(y, x)},
			{c.and(x, c.and(y, z)), c.and(c.and(x, y), z)},
			{c.or(x, c.or(y, z)), c.or(c.or(x, y), z)},
			{c.xor(x, c.xor(y, z)), c.xor(c.xor(x, y), z)},
			{c.and(x, c.or(y, z)), c.or(c.and(x, y), c.and(x, z))},
			{c.or(x, c.and(y, z)), c.and(c.or(x, y), c.or(x, z))},
			{c.and(x, c.xor(y, z)), c.xor(c.and(x, y), c.and(x, z))},
			{c.not(c.and(x, y)), c.or(c.not(x), c.not(y))},
			{c.not(c.or(x, y)), c.and(c.not(x), c.not(y))},
			{c.xor(x, y), c.or(c.and(x, c.not(y)), c.and(y, c.not(x)))},
			{c.and(x, c.or(x, y)), x},
			{c.or(x, c.and(x, y)), x},
			{c.not(c.not(x)), x},
			{c.and(x, x), x}, {c.or(x, x), x}, {c.xor(x, x), none},
			{c.and(x, none), none}, {c.or(x, none), x}, {c.xor(x, none), x},
			{c.and(x, all), x}, {c.or(x, all), all}, {c.xor(x, all), c.not(x)},
			{c.and(x, c.not(x)), none}, {c.or(x, c.not(x)), all}, {c.xor(x, c.not(x)), all},
		} {
			if !sameBdd(law[0], law[1]) || impl.BddText(law[0]) != impl.BddText(law[1]) {
				t.Fatal("law", i, "gives", law, "of", x, y, z)
			}
		}
	}
}

// Of the sets of three bits no two have one diagram.
func TestP26OneDiagramForEachSet(t *testing.T) {
	texts := map[string]bool{}
	for vars := range 4 {
		for _, l := range allTables(vars) {
			texts[impl.BddText(set(t, l))] = true
		}
	}
	wantInt(t, len(texts), 2+4+16+256, "diagrams")
}

func TestP26BddVarAndBddConst(t *testing.T) {
	for vars := range impl.BddVarsMax + 1 {
		for _, yes := range []bool{false, true} {
			b, ok := impl.BddConst(vars, yes)
			wantBdd(t, b, ok, tableOf(vars, func(n int) bool { return yes }), vars, yes)
			wantInt(t, impl.BddCount(b), power(vars)*flag(yes), "all or none of", vars)
		}
		for i := range vars {
			b, ok := impl.BddVar(vars, i)
			wantBdd(t, b, ok, tableOf(vars, func(n int) bool { return bit(n, i) == 1 }), vars, i)
			wantInt(t, impl.BddCount(b), power(vars-1), "half of", vars)
		}
	}
}

func checkIf(t *testing.T, c table, a table, b table) {
	t.Helper()
	got, ok := impl.BddIf(set(t, c), set(t, a), set(t, b))
	wantBdd(t, got, ok, chosen(c, a, b), "if", c, a, b)
}

func TestP50ChoicesNumberByNumber(t *testing.T) {
	for vars := range 3 {
		for _, c := range allTables(vars) {
			for _, a := range allTables(vars) {
				for _, b := range allTables(vars) {
					checkIf(t, c, a, b)
				}
			}
		}
	}
	r := rand.New(rand.NewPCG(50, 1))
	for vars := 3; vars <= impl.BddVarsMax; vars++ {
		for range 80 - 5*vars {
			l := someTables(r, vars, 3)
			checkIf(t, l[0], l[1], l[2])
			checkIf(t, l[0], l[1], l[1])
			checkIf(t, l[0], l[0], l[1])
			checkIf(t, l[0], l[1], others(l[1]))
		}
	}
}

func TestP50ChoicesByTheCalls(t *testing.T) {
	r := rand.New(rand.NewPCG(50, 2))
	for vars := range 8 {
		for range 20 {
			l := someTables(r, vars, 3)
			c, a, b := set(t, l[0]), set(t, l[1]), set(t, l[2])
			got, ok := impl.BddIf(c, a, b)
			for n := range power(vars) {
				of := []impl.Bdd{b, a}[flag(impl.BddEval(c, n))]
				if !ok || impl.BddEval(got, n) != impl.BddEval(of, n) {
					t.Fatal("the number", n, "of", got, ok, "from", c, a, b)
				}
			}
		}
	}
}

// Sets of BddMax nodes, and answers that would have one more.
func TestP26LargestDiagrams(t *testing.T) {
	s := bddBrink()
	checkOne(t, s.l)
	checkTwo(t, s.l, s.l)
	checkTwo(t, s.l, others(s.l))
	for _, n := range list(s.more, s.fewer) {
		if b := diagram(s.l.toggled(n)); len(b.Nodes) != impl.BddMax+1 || impl.BddOk(b) || !goesOn(b) {
			t.Fatal("a node more", len(b.Nodes))
		}
	}
	c := calls{t}
	b, none := set(t, s.l), c.constant(impl.BddVarsMax, false)
	one, all := set(t, tableFrom(impl.BddVarsMax, s.more)), set(t, others(tableFrom(impl.BddVarsMax, s.fewer)))
	wantInt(t, len(b.Nodes), impl.BddMax, "nodes")
	for i, f := range []func() (impl.Bdd, bool){
		func() (impl.Bdd, bool) { return impl.BddOr(b, one) },
		func() (impl.Bdd, bool) { return impl.BddXor(one, b) },
		func() (impl.Bdd, bool) { return impl.BddAnd(b, all) },
		func() (impl.Bdd, bool) { return impl.BddIf(one, one, b) },
		func() (impl.Bdd, bool) { return impl.BddIf(all, b, none) },
	} {
		got, ok := f()
		wantNoBdd(t, got, ok, "a node more", i)
	}
	// Of these the answers have just BddMax nodes.
	for _, n := range s.l.codes()[:100] {
		if less := s.l.toggled(n); nodeCount(less) <= impl.BddMax {
			one := tableFrom(impl.BddVarsMax, n)
			checkTwo(t, less, one)
			checkTwo(t, s.l, others(one))
			checkIf(t, one, one, less)
		}
	}
}

// Small sets of which both together are just as large as they may be, or have one node more; what is too large
// only on the way to an answer does not count.
func TestP26AnswersAtTheBrink(t *testing.T) {
	for _, goal := range list(impl.BddMax, impl.BddMax+1) {
		l := openBrink(t, 0, goal)
		a, b := fixed(l, 0, 0), fixed(l, 0, 1)
		wantInt(t, nodeCount(binaries()[1].table(a, b)), goal, "nodes of both together")
		checkTwo(t, a, b)
		checkTwo(t, others(a), others(b))
		checkIf(t, a, a, b)
		checkIf(t, others(a), b, a)
		checkIf(t, others(a), others(b), others(b))
		checkIf(t, others(a), others(b), make(table, len(l)))
		got, ok := impl.BddOr(set(t, a), set(t, b))
		if ok != (goal == impl.BddMax) || len(got.Nodes) != impl.BddMax*flag(ok) {
			t.Fatal("both together", len(got.Nodes), ok, "of", goal)
		}
	}
}

// BddOk is true of just those diagrams that are the one diagram of the set that they tell.
func TestP26EachSmallDiagram(t *testing.T) {
	right := map[int]int{}
	check := func(b impl.Bdd) {
		want := wantBddOk(b)
		right[len(b.Nodes)] += flag(want)
		if impl.BddOk(b) != want {
			t.Fatal("ok", !want, b)
		}
	}
	nodes := func(vars int, places int) []impl.BddNode {
		var l []impl.BddNode
		for n := range vars * places * places {
			l = append(l, impl.BddNode{Var: n / places / places, Lo: n / places % places, Hi: n % places})
		}
		return l
	}
	for vars := -1; vars <= 3; vars++ {
		for root := -1; root <= 4; root++ {
			check(impl.Bdd{Vars: vars, Root: root})
			for _, a := range nodes(4, 5) {
				a = impl.BddNode{Var: a.Var - 1, Lo: a.Lo - 1, Hi: a.Hi - 1}
				check(impl.Bdd{Vars: vars, Nodes: []impl.BddNode{a}, Root: root})
				for _, b := range nodes(3, 5) {
					check(impl.Bdd{Vars: vars, Nodes: []impl.BddNode{a, b}, Root: root})
				}
			}
		}
	}
	for _, a := range nodes(2, 2) {
		for _, b := range nodes(3, 4) {
			for _, c := range nodes(2, 5) {
				for root := range 5 {
					check(impl.Bdd{Vars: 3, Nodes: []impl.BddNode{a, b, c}, Root: root})
				}
			}
		}
	}
	for count := range 4 {
		if right[count] < 6 {
			t.Fatal("too few that are ok", right)
		}
	}
}

// Right diagrams with one or two numbers changed, with two nodes that change places, and with a node put in or left out.
func TestP26ChangedDiagrams(t *testing.T) {
	r := rand.New(rand.NewPCG(26, 4))
	seen := [2]int{}
	for round := range 20000 {
		l := someTables(r, 1+round%5, 1)[0]
		b := diagram(l)
		for range r.IntN(3) {
			b = changedBdd(r, b)
		}
		want := wantBddOk(b)
		seen[flag(want)]++
		if impl.BddOk(b) != want {
			t.Fatal("ok", !want, b)
		}
	}
	if seen[0] < 5000 || seen[1] < 5000 {
		t.Fatal("too few of a kind", seen)
	}
}

// changedBdd is a diagram with something of it changed, by a fixed rule.
func changedBdd(r *rand.Rand, b impl.Bdd) impl.Bdd {
	b = copyBdd(b)
	count := len(b.Nodes)
	rename := func(rule func(place int) int) {
		b.Root = rule(b.Root)
		for k := range b.Nodes {
			b.Nodes[k].Lo, b.Nodes[k].Hi = rule(b.Nodes[k].Lo), rule(b.Nodes[k].Hi)
		}
	}
	switch kind := r.IntN(6); {
	case kind == 0 || count == 0:
		b.Root = r.IntN(count + 3)
	case kind < 3:
		n := &b.Nodes[r.IntN(count)]
		*[]*int{&n.Var, &n.Lo, &n.Hi}[r.IntN(3)] = r.IntN(count + 2)
	case kind == 3:
		at := r.IntN(count)
		to := (at + 1) % count
		b.Nodes[at], b.Nodes[to] = b.Nodes[to], b.Nodes[at]
		rename(func(place int) int {
			switch place - 2 {
			case at:
				return to + 2
			case to:
				return at + 2
			}
			return place
		})
	case kind == 4:
		at := r.IntN(count + 1)
		rename(func(place int) int { return place + flag(place >= at+2) })
		n := b.Nodes[r.IntN(count)]
		b.Nodes = slices.Insert(b.Nodes, at, n)
	default:
		at := r.IntN(count)
		b.Nodes = slices.Delete(b.Nodes, at, at+1)
		rename(func(place int) int { return place - flag(place > at+2) })
	}
	return b
}

// Answers are new memory, spare room included, and nothing is written into an argument or behind its end.
func TestP26MemoryIsKeptApart(t *testing.T) {
	r := rand.New(rand.NewPCG(26, 5))
	mark := impl.BddNode{Var: 7, Lo: 77, Hi: 777}
	for round := range 200 {
		l := someTables(r, 1+round%9, 1)[0]
		kept := diagram(l)
		b := copyBdd(kept)
		b.Nodes = append(b.Nodes, mark, mark)[:len(kept.Nodes)]
		texts := answerTexts(answersOf(b))
		for _, answer := range answersOf(b) {
			room := answer.Nodes[:cap(answer.Nodes)]
			for i := range room {
				room[i] = impl.BddNode{Var: 9, Lo: 99, Hi: 999}
			}
		}
		room := b.Nodes[:len(b.Nodes)+2]
		if !sameBdd(b, kept) || room[len(room)-2] != mark || room[len(room)-1] != mark {
			t.Fatal("an argument was written into", b, "was", kept)
		}
		if !slices.Equal(answerTexts(answersOf(b)), texts) {
			t.Fatal("other answers the second time", b)
		}
	}
}

// answersOf are all diagrams that are made of one.
func answersOf(b impl.Bdd) []impl.Bdd {
	var l []impl.Bdd
	add := func(b impl.Bdd, ok bool) { l = append(l, b) }
	add(impl.BddNot(b))
	for _, p := range binaries() {
		add(p.f(b, b))
	}
	add(impl.BddIf(b, b, b))
	for i := range b.Vars {
		add(impl.BddFix(b, i, false))
		add(impl.BddFix(b, i, true))
		add(impl.BddSome(b, i))
	}
	add(impl.BddGrow(b, b.Vars))
	add(impl.BddGrow(b, b.Vars+1))
	add(impl.BddRead(impl.BddText(b)))
	return l
}

func answerTexts(l []impl.Bdd) []string {
	var texts []string
	for _, b := range l {
		texts = append(texts, impl.BddText(b))
	}
	return texts
}

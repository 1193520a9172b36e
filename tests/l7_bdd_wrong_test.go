package tests

import (
	"math"
	"math/rand/v2"
	"regexp"
	"slices"
	"strconv"
	"strings"
	"testing"

	"loop.example/leadline/impl"
)

// wrongBdd is a diagram that is not ok, and why.
type wrongBdd struct {
	what string
	b    impl.Bdd
}

// most is the numbers of three bits of which two bits at least are 1.
func most() impl.Bdd {
	return impl.Bdd{Vars: 3, Nodes: []impl.BddNode{{Var: 2, Lo: 0, Hi: 1}, {Var: 1, Lo: 0, Hi: 2}, {Var: 1, Lo: 2, Hi: 1}, {Var: 0, Lo: 3, Hi: 4}}, Root: 5}
}

// noPlaces are no places of any diagram.
func noPlaces() []int {
	return list(-1, -2, -601, impl.BddMax+2, impl.BddMax+3, 1<<31, 1<<32, 1<<32+1, math.MaxInt, math.MaxInt-1, math.MinInt, math.MinInt+2)
}

// noVars are no numbers of bits.
func noVars() []int {
	return list(-1, -2, impl.BddVarsMax+1, impl.BddVarsMax+2, 16, 62, 63, 64, 65, 1<<32, math.MaxInt, math.MinInt)
}

// wrongBdds are diagrams with one fault each.
func wrongBdds(t *testing.T) []wrongBdd {
	t.Helper()
	var l []wrongBdd
	add := func(what string, b impl.Bdd) { l = append(l, wrongBdd{what, b}) }
	made := func(what string, vars int, root int, nodes ...impl.BddNode) {
		add(what, impl.Bdd{Vars: vars, Nodes: nodes, Root: root})
	}
	change := func(what string, f func(b *impl.Bdd)) {
		b := most()
		f(&b)
		add(what, b)
	}
	for _, vars := range append(noVars(), 0, 1, 2) {
		change("Vars", func(b *impl.Bdd) { b.Vars = vars })
	}
	for _, vars := range noVars() {
		made("Vars without nodes", vars, 0)
		made("Vars without nodes", vars, 1)
	}
	for _, place := range append(noPlaces(), 0, 1, 2, 3, 4, 6) {
		change("Root", func(b *impl.Bdd) { b.Root = place })
	}
	for _, place := range append(noPlaces(), 2, 3) {
		made("Root without nodes", 3, place)
		made("Root without nodes and bits", 0, place)
	}
	for k := range most().Nodes {
		for _, place := range append(noPlaces(), k+2, k+3, 5, 6) {
			change("Lo", func(b *impl.Bdd) { b.Nodes[k].Lo = place })
			change("Hi", func(b *impl.Bdd) { b.Nodes[k].Hi = place })
		}
		for _, v := range append(noPlaces(), 3, 13) {
			change("Var", func(b *impl.Bdd) { b.Nodes[k].Var = v })
		}
		change("Hi is Lo", func(b *impl.Bdd) { b.Nodes[k].Hi = b.Nodes[k].Lo })
		change("Lo is Hi", func(b *impl.Bdd) { b.Nodes[k].Lo = b.Nodes[k].Hi })
	}
	made("a node without bits", 0, 2, impl.BddNode{Var: 0, Lo: 0, Hi: 1})
	made("the bit behind the last", 1, 2, impl.BddNode{Var: 1, Lo: 0, Hi: 1})
	made("Var as behind", 3, 3, impl.BddNode{Var: 1, Lo: 0, Hi: 1}, impl.BddNode{Var: 1, Lo: 0, Hi: 2})
	made("Var above the one behind", 3, 3, impl.BddNode{Var: 1, Lo: 0, Hi: 1}, impl.BddNode{Var: 2, Lo: 2, Hi: 0})
	made("twins", 3, 6, impl.BddNode{Var: 2, Lo: 0, Hi: 1}, impl.BddNode{Var: 1, Lo: 0, Hi: 2},
		impl.BddNode{Var: 2, Lo: 0, Hi: 1}, impl.BddNode{Var: 1, Lo: 4, Hi: 1}, impl.BddNode{Var: 0, Lo: 3, Hi: 5})
	made("twins that lead to the same", 2, 4, impl.BddNode{Var: 1, Lo: 0, Hi: 1}, impl.BddNode{Var: 1, Lo: 0, Hi: 1}, impl.BddNode{Var: 0, Lo: 2, Hi: 3})
	made("a node that nothing leads to, ahead", 3, 3, impl.BddNode{Var: 2, Lo: 0, Hi: 1}, impl.BddNode{Var: 1, Lo: 0, Hi: 1})
	made("a node that nothing leads to, behind", 3, 2, impl.BddNode{Var: 2, Lo: 0, Hi: 1}, impl.BddNode{Var: 1, Lo: 0, Hi: 2})
	made("a node that nothing leads to, between", 3, 4, impl.BddNode{Var: 2, Lo: 0, Hi: 1}, impl.BddNode{Var: 2, Lo: 1, Hi: 0}, impl.BddNode{Var: 0, Lo: 0, Hi: 2})
	made("nodes of the empty set", 3, 0, impl.BddNode{Var: 2, Lo: 0, Hi: 1})
	made("nodes of all numbers", 3, 1, impl.BddNode{Var: 2, Lo: 0, Hi: 1})
	made("Hi is done ahead of Lo", 3, 5, impl.BddNode{Var: 2, Lo: 0, Hi: 1}, impl.BddNode{Var: 1, Lo: 2, Hi: 1},
		impl.BddNode{Var: 1, Lo: 0, Hi: 2}, impl.BddNode{Var: 0, Lo: 4, Hi: 3})
	made("Hi is done ahead of Lo, behind", 2, 4, impl.BddNode{Var: 1, Lo: 1, Hi: 0}, impl.BddNode{Var: 1, Lo: 0, Hi: 1}, impl.BddNode{Var: 0, Lo: 3, Hi: 2})
	made("done too early", 3, 5, impl.BddNode{Var: 2, Lo: 0, Hi: 1}, impl.BddNode{Var: 2, Lo: 1, Hi: 0},
		impl.BddNode{Var: 1, Lo: 0, Hi: 2}, impl.BddNode{Var: 0, Lo: 4, Hi: 3})
	add("a node more than BddMax", diagram(bddBrink().l.toggled(bddBrink().more)))
	add("a node more than BddMax", diagram(bddBrink().l.toggled(bddBrink().fewer)))
	add("very many nodes", impl.Bdd{Vars: 1, Nodes: slices.Repeat([]impl.BddNode{{Var: 0, Lo: 0, Hi: 1}}, 100000), Root: 2})
	return l
}

// wantNothingOf holds what is told of a diagram by itself to what is told of one that is not ok.
func wantNothingOf(t *testing.T, b impl.Bdd, what string) {
	t.Helper()
	if impl.BddOk(b) || impl.BddText(b) != "" {
		t.Fatal(what, "is ok:", b)
	}
	for _, n := range append(noPlaces(), 0, 1, 2, 3, 7, 8) {
		if impl.BddEval(b, n) || impl.BddUses(b, n) {
			t.Fatal(what, "has", n, b)
		}
	}
	wantInt(t, impl.BddCount(b), 0, what)
	if n, ok := impl.BddLeast(b); n != 0 || ok {
		t.Fatal(what, "has the least", n, ok)
	}
	if codes, ok := impl.BddCodes(b); len(codes) != 0 || ok {
		t.Fatal(what, "has the numbers", codes, ok)
	}
}

// wantNothingMade holds what is made of a diagram, and others that are ok, to what is told of one that is not ok.
func wantNothingMade(t *testing.T, b impl.Bdd, others []impl.Bdd, what string) {
	t.Helper()
	refused := func(got impl.Bdd, ok bool) {
		t.Helper()
		wantNoBdd(t, got, ok, what, b)
	}
	refused(impl.BddNot(b))
	for i := -1; i < 4; i++ {
		refused(impl.BddFix(b, i, true))
		refused(impl.BddFix(b, i, false))
		refused(impl.BddSome(b, i))
	}
	for _, vars := range append(noVars(), 0, 3, b.Vars, impl.BddVarsMax) {
		refused(impl.BddGrow(b, vars))
	}
	for _, p := range binaries() {
		refused(p.f(b, b))
		for _, other := range others {
			refused(p.f(b, other))
			refused(p.f(other, b))
		}
	}
	refused(impl.BddIf(b, b, b))
	for _, other := range others {
		refused(impl.BddIf(b, other, other))
		refused(impl.BddIf(other, b, other))
		refused(impl.BddIf(other, other, b))
	}
}

func TestP26DiagramsThatAreNotOk(t *testing.T) {
	if !impl.BddOk(most()) || !wantBddOk(most()) {
		t.Fatal("the diagram without a fault")
	}
	for _, w := range wrongBdds(t) {
		if wantBddOk(w.b) {
			t.Fatal(w.what, "is no fault of", w.b)
		}
		wantNothingOf(t, w.b, w.what)
		right := []impl.Bdd{most(), {Vars: 3}, {Vars: 3, Root: 1}}
		if w.b.Vars >= 0 && w.b.Vars <= impl.BddVarsMax {
			right = append(right, impl.Bdd{Vars: w.b.Vars}, impl.Bdd{Vars: w.b.Vars, Root: 1})
		}
		wantNothingMade(t, w.b, right, w.what)
	}
}

// The empty diagram is the empty set of no bits; that is ok.
func TestP26SetsWithoutBits(t *testing.T) {
	none, all := impl.Bdd{}, impl.Bdd{Nodes: []impl.BddNode{}, Root: 1}
	checkOne(t, table{0})
	checkOne(t, table{1})
	for i, b := range []impl.Bdd{none, all} {
		if !impl.BddOk(b) || impl.BddCount(b) != i || impl.BddEval(b, 0) != (i == 1) || impl.BddEval(b, 1) || impl.BddUses(b, 0) {
			t.Fatal("without bits", b)
		}
		got, ok := impl.BddVar(0, i)
		wantNoBdd(t, got, ok, "no bit", i)
		got, ok = impl.BddFix(b, 0, true)
		wantNoBdd(t, got, ok, "no bit", b)
		got, ok = impl.BddSome(b, 0)
		wantNoBdd(t, got, ok, "no bit", b)
		got, ok = impl.BddGrow(b, 1)
		wantBdd(t, got, ok, table{byte(i), byte(i)}, "grown", b)
	}
}

// Of two sets of numbers of unlike bits nothing is made, nor of three of which one is unlike.
func TestP26UnlikeBits(t *testing.T) {
	r := rand.New(rand.NewPCG(26, 6))
	for a := range impl.BddVarsMax + 1 {
		for b := range impl.BddVarsMax + 1 {
			if a == b {
				continue
			}
			for _, l := range [][2]impl.Bdd{
				{{Vars: a}, {Vars: b}}, {{Vars: a, Root: 1}, {Vars: b, Root: 1}},
				{set(t, someTables(r, a, 1)[0]), set(t, someTables(r, b, 1)[0])},
			} {
				for _, p := range binaries() {
					got, ok := p.f(l[0], l[1])
					wantNoBdd(t, got, ok, p.word, l)
				}
				for _, c := range [][3]int{{0, 0, 1}, {0, 1, 0}, {1, 0, 0}} {
					got, ok := impl.BddIf(l[c[0]], l[c[1]], l[c[2]])
					wantNoBdd(t, got, ok, "if", c, l)
				}
			}
		}
	}
	// Of three sets of unlike bits each.
	got, ok := impl.BddIf(impl.Bdd{Vars: 1}, impl.Bdd{Vars: 2}, impl.Bdd{Vars: 3})
	wantNoBdd(t, got, ok, "all unlike")
}

func TestP50NoSetsOfNoBits(t *testing.T) {
	for _, vars := range noVars() {
		for _, yes := range []bool{false, true} {
			got, ok := impl.BddConst(vars, yes)
			wantNoBdd(t, got, ok, "const", vars)
		}
		for _, i := range append(noPlaces(), 0, 1, vars-1, vars) {
			got, ok := impl.BddVar(vars, i)
			wantNoBdd(t, got, ok, "var", vars, i)
		}
	}
	for vars := range impl.BddVarsMax + 1 {
		for _, i := range append(noPlaces(), vars, vars+1, -vars-1, 13, 14) {
			got, ok := impl.BddVar(vars, i)
			wantNoBdd(t, got, ok, "var", vars, i)
		}
	}
}

func TestP27NoSuchBit(t *testing.T) {
	r := rand.New(rand.NewPCG(27, 3))
	for vars := range impl.BddVarsMax + 1 {
		for _, l := range append(someTables(r, vars, 3), make(table, power(vars)), others(make(table, power(vars)))) {
			b := set(t, l)
			for _, i := range append(noPlaces(), vars, vars+1, 13, 14, 63, 64) {
				for _, yes := range []bool{false, true} {
					got, ok := impl.BddFix(b, i, yes)
					wantNoBdd(t, got, ok, "fixed", i, b)
				}
				got, ok := impl.BddSome(b, i)
				wantNoBdd(t, got, ok, "open", i, b)
				if impl.BddUses(b, i) {
					t.Fatal("hangs on", i, b)
				}
			}
		}
	}
}

// noCodes are no numbers of that many bits.
func noCodes(vars int) []int {
	return list(-1, -2, -power(vars), power(vars), power(vars)+1, 2*power(vars)-1, 2*power(vars), 1<<14, 1<<31, 1<<32, 1<<32+1, 1<<62, math.MaxInt, math.MinInt, math.MinInt+1)
}

func TestP28NoNumbersOfTheBits(t *testing.T) {
	for vars := range impl.BddVarsMax + 1 {
		all := impl.Bdd{Vars: vars, Root: 1}
		for _, n := range noCodes(vars) {
			if impl.BddEval(all, n) {
				t.Fatal("has", n, "of", vars, "bits")
			}
			for _, codes := range [][]int{list(n), list(n, 0), list(0, n), append(repeated(0, impl.CodesMax-1), n)} {
				got, ok := impl.BddFrom(vars, codes)
				wantNoBdd(t, got, ok, vars, n)
			}
		}
		if !impl.BddEval(all, power(vars)-1) || !impl.BddEval(all, 0) {
			t.Fatal("not all of", vars)
		}
	}
	for _, n := range noCodes(3) {
		if impl.BddEval(most(), n) {
			t.Fatal("has", n)
		}
	}
}

func TestP28ListsThatAreTooLong(t *testing.T) {
	for vars := range impl.BddVarsMax + 1 {
		for _, count := range list(impl.CodesMax+1, impl.CodesMax+2, 10000) {
			// That all of them are one number does not help.
			got, ok := impl.BddFrom(vars, repeated(power(vars)-1, count))
			wantNoBdd(t, got, ok, vars, count)
		}
		if vars > 8 {
			got, ok := impl.BddFrom(vars, tableOf(vars, func(n int) bool { return n <= impl.CodesMax }).codes())
			wantNoBdd(t, got, ok, vars)
		}
	}
	for _, vars := range noVars() {
		for _, codes := range [][]int{nil, list(0), list(0, 1), list(-1)} {
			got, ok := impl.BddFrom(vars, codes)
			wantNoBdd(t, got, ok, vars, codes)
		}
	}
}

func TestP30FewerBitsOrTooMany(t *testing.T) {
	r := rand.New(rand.NewPCG(30, 3))
	for vars := range impl.BddVarsMax + 1 {
		for _, l := range append(someTables(r, vars, 2), make(table, power(vars)), others(make(table, power(vars)))) {
			b := set(t, l)
			for _, more := range noVars() {
				got, ok := impl.BddGrow(b, more)
				wantNoBdd(t, got, ok, "grown to", more, b)
			}
			for fewer := range vars {
				got, ok := impl.BddGrow(b, fewer)
				wantNoBdd(t, got, ok, "grown to", fewer, b)
			}
		}
	}
}

// setText is the form of a set's text.
var setText = regexp.MustCompile(`^set (0|[1-9][0-9]{0,5}) (0|[1-9][0-9]{0,5})\n((0|[1-9][0-9]{0,5}) (0|[1-9][0-9]{0,5}) (0|[1-9][0-9]{0,5})\n)*$`)

// wantSet is the diagram that a text tells, and whether it is one.
func wantSet(text string) (impl.Bdd, bool) {
	if !setText.MatchString(text) {
		return impl.Bdd{}, false
	}
	var l []int
	for _, word := range strings.Fields(text)[1:] {
		n, _ := strconv.Atoi(word)
		l = append(l, n)
	}
	b := impl.Bdd{Vars: l[0], Root: l[1]}
	for rest := l[2:]; len(rest) > 0; rest = rest[3:] {
		b.Nodes = append(b.Nodes, impl.BddNode{Var: rest[0], Lo: rest[1], Hi: rest[2]})
	}
	if !wantBddOk(b) {
		return impl.Bdd{}, false
	}
	return b, true
}

// checkSetText holds BddRead to what a text tells, and says whether it is read.
func checkSetText(t *testing.T, text string) bool {
	t.Helper()
	want, isSet := wantSet(text)
	b, ok := impl.BddRead(text)
	if ok != isSet || !sameBdd(b, want) {
		t.Fatalf("read %v %v of %q", b, ok, text)
	}
	if ok && impl.BddText(b) != text {
		t.Fatalf("text %q, read from %q", impl.BddText(b), text)
	}
	return ok
}

func TestP29NoTextsOfSets(t *testing.T) {
	for _, text := range []string{
		"", "\n", "\n\n", "set", "set\n", "set \n", "set  \n", "set 0\n", "set 0 \n", "set  0\n", "set 0 0", "set 0 0 \n", "set 0 0 0\n", "set 0  0\n", " set 0 0\n",
		"set 0 0\n\n", "\nset 0 0\n", "set 0 0\r\n", "set\t0 0\n", "Set 0 0\n", "sets 0 0\n", "set0 0\n", "0 0\n", "set 00 0\n", "set 0 00\n", "set 0 01\n", "set +0 0\n",
		"set -0 0\n", "set -1 0\n", "set 0 -1\n", "set 0 2\n", "set 14 0\n", "set 14 1\n", "set 013 1\n", "set 13 1", "set x 0\n", "set 0 x\n", "set 0 0\nset 0 0\n", "# no\nset 0 0\n",
		"set 1 2\n", "set 1 2\n0 0 1", "set 1 2\n\n0 0 1\n", "set 1 2\n0 0 1\n\n", "set 1 2\n0 0 1 \n", "set 1 2\n 0 0 1\n", "set 1 2\n0 0  1\n", "set 1 2\n0 0 1 0\n",
		"set 1 2\n0 0\n1\n", "set 1 2\n0 0\n", "set 1 2 0 0 1\n", "set 1 2\n0 00 1\n", "set 1 2\n0 0 01\n", "set 1 2\n00 0 1\n", "set 1 2\n0 1 1\n", "set 1 2\n0 0 0\n", "set 1 2\n1 0 1\n",
		"set 1 1\n0 0 1\n", "set 1 0\n0 0 1\n", "set 1 3\n0 0 1\n", "set 1 2\n0 0 2\n", "set 1 2\n0 0 1\n0 1 0\n", "set 1 2\n0 0 1\r\n", "set 1 2\n0\t0 1\n", "set 1 2\n+0 0 1\n",
		"set 1 2\n0 0 1000000\n", "set 1 2\n0 0 18446744073709551617\n", "set 1 18446744073709551618\n0 0 1\n", "set 18446744073709551617 2\n0 0 1\n", "set 4294967297 0\n",
		"set 1 2\n0 0 4294967297\n", "set 1 2\n0 0 ١\n", "set 1 2\n0 0 0x1\n", "set 1 2\n0 0 1_\n", "set 1 2\n0 0 1e0\n", "set 1 2\n0 0 1.0\n", "set 1 999999\n0 0 1\n", "set 999999 2\n0 0 1\n",
		"set 2 4\n1 1 0\n1 0 1\n0 3 2\n", "set 2 4\n1 0 1\n1 0 1\n0 2 3\n", "set 2 4\n1 0 1\n0 1 0\n0 2 3\n", "set 3 3\n2 0 1\n1 0 1\n",
		"set 1 2\n# no\n0 0 1\n", "safe 0\nset 0 1\n", "set 0 0\x00\n", "set 0 0\n\x00", "\xef\xbb\xbfset 0 0\n", "set\xa00 0\n",
	} {
		if checkSetText(t, text) {
			t.Fatalf("read %q", text)
		}
	}
	for _, text := range []string{"set 0 0\n", "set 0 1\n", "set 13 1\n", "set 1 2\n0 0 1\n", "set 1 2\n0 1 0\n", impl.BddText(most())} {
		if !checkSetText(t, text) {
			t.Fatalf("did not read %q", text)
		}
	}
}

// Texts with one sign too few, too many, or another one, at every place.
func TestP29OneSignOfAText(t *testing.T) {
	signs := "0123456789 \nset-+#\t\r\x00\xff"
	seen := [2]int{}
	for _, text := range []string{"set 0 1\n", "set 13 0\n", "set 1 2\n0 0 1\n", impl.BddText(most())} {
		for at := range len(text) + 1 {
			for _, sign := range []byte(signs) {
				seen[flag(checkSetText(t, text[:at]+string([]byte{sign})+text[at:]))]++
				if at < len(text) {
					seen[flag(checkSetText(t, text[:at]+string([]byte{sign})+text[at+1:]))]++
				}
			}
			if at < len(text) {
				seen[flag(checkSetText(t, text[:at]+text[at+1:]))]++
				seen[flag(checkSetText(t, text[:at]))]++
			}
		}
	}
	if seen[0] < 1000 || seen[1] < 20 {
		t.Fatal("too few of a kind", seen)
	}
}

func TestP29SpoiltTexts(t *testing.T) {
	r := rand.New(rand.NewPCG(29, 2))
	seen := [2]int{}
	for round := range 6000 {
		text := impl.BddText(set(t, someTables(r, 1+round%5, 1)[0]))
		for range 1 + r.IntN(2) {
			text = spoilt(r, text)
		}
		seen[flag(checkSetText(t, text))]++
	}
	if seen[0] < 3000 || seen[1] < 300 {
		t.Fatal("too few of a kind", seen)
	}
}

// All texts of one node, with small numbers.
func TestP29TextsOfOneNode(t *testing.T) {
	count := 0
	for number := range 4 * 4 * 4 * 4 * 4 {
		l := list(number%4, number/4%4, number/16%4, number/64%4, number/256)
		var words []string
		for _, n := range l {
			words = append(words, strconv.Itoa(n))
		}
		count += flag(checkSetText(t, "set "+strings.Join(words[:2], " ")+"\n"+strings.Join(words[2:], " ")+"\n"))
	}
	// One to three bits, one of them asked for, in one of both ways.
	wantInt(t, count, (1+2+3)*2, "texts of one node")
}

// A text that is far too long has an answer, too.
func TestP29VeryLongTexts(t *testing.T) {
	for _, text := range []string{strings.Repeat("\n", 1000000), strings.Repeat("set 0 0\n", 100000), "set 0 0\n" + strings.Repeat("0 0 1\n", 100000), "set 0 " + strings.Repeat("0", 1000000) + "\n", "set " + strings.Repeat("0 ", 500000) + "\n"} {
		b, ok := impl.BddRead(text)
		wantNoBdd(t, b, ok, "a long text")
	}
}

// Nothing is kept between calls: what was wrong, or too large, does not spoil what is right.
func TestP26NothingIsKept(t *testing.T) {
	s := bddBrink()
	b, one := set(t, s.l), set(t, tableFrom(impl.BddVarsMax, s.more))
	for range 3 {
		got, ok := impl.BddOr(b, one)
		wantNoBdd(t, got, ok, "a node more")
		got, ok = impl.BddNot(impl.Bdd{Vars: -1})
		wantNoBdd(t, got, ok, "no bits")
		checkTwo(t, met(most()), tableFrom(3, 0, 3, 4))
		got, ok = impl.BddOr(b, b)
		wantBdd(t, got, ok, s.l, "itself")
	}
}

package tests

import (
	"math/rand/v2"
	"slices"
	"strconv"
	"strings"
	"testing"

	"loop.example/leadline/impl"
)

// P27: leaving a bit open is trying both. P28: a set is its numbers. P29: a set is read back from its text.
// P30: more bits change nothing.

// checkBit holds what is fixed, and what is left open, to the numbers.
func checkBit(t *testing.T, l table, i int) {
	t.Helper()
	b := set(t, l)
	for value := range 2 {
		got, ok := impl.BddFix(b, i, value == 1)
		wantBdd(t, got, ok, fixed(l, i, value), "bit", i, "is", value, b)
		if impl.BddUses(got, i) {
			t.Fatal("what is fixed hangs on", i, got)
		}
	}
	got, ok := impl.BddSome(b, i)
	wantBdd(t, got, ok, open(l, i), "bit", i, "is open", b)
	if impl.BddUses(got, i) {
		t.Fatal("what is open hangs on", i, got)
	}
}

func TestP27BitsOfSets(t *testing.T) {
	for vars := range 4 {
		for _, l := range allTables(vars) {
			for i := range vars {
				checkBit(t, l, i)
			}
		}
	}
	r := rand.New(rand.NewPCG(27, 1))
	for vars := 4; vars <= impl.BddVarsMax; vars++ {
		for _, l := range someTables(r, vars, 20-vars) {
			for i := range vars {
				checkBit(t, l, i)
			}
		}
	}
}

// By the calls: a number is in what is open just if it is in the set with the bit either way.
func TestP27OpenIsEitherWay(t *testing.T) {
	r := rand.New(rand.NewPCG(27, 2))
	for vars := 1; vars <= 8; vars++ {
		for _, l := range someTables(r, vars, 12) {
			b, i := set(t, l), r.IntN(vars)
			some, ok := impl.BddSome(b, i)
			without, _ := impl.BddFix(b, i, false)
			with, _ := impl.BddFix(b, i, true)
			either, also := impl.BddOr(without, with)
			if !ok || !also || !sameBdd(some, either) {
				t.Fatal("open", some, "either", either, "of", b, i)
			}
			for n := range l {
				if impl.BddEval(some, n) != (impl.BddEval(b, withBit(n, i, 0)) || impl.BddEval(b, withBit(n, i, 1))) {
					t.Fatal("the number", n, "of", some, "from", b, i)
				}
			}
		}
	}
}

// A set may be small, and too large where a bit is left open.
func TestP27LargestDiagrams(t *testing.T) {
	for _, i := range list(0, 6) {
		for _, goal := range list(impl.BddMax, impl.BddMax+1) {
			l := openBrink(t, i, goal)
			checkBit(t, l, i)
			got, ok := impl.BddSome(set(t, l), i)
			if ok != (goal == impl.BddMax) || len(got.Nodes) != impl.BddMax*flag(ok) {
				t.Fatal("left open", len(got.Nodes), ok, "of", goal)
			}
		}
	}
	s := bddBrink()
	for i := range impl.BddVarsMax {
		checkBit(t, s.l, i)
	}
}

// checkList holds a set of told numbers to them.
func checkList(t *testing.T, vars int, codes []int) {
	t.Helper()
	kept := slices.Clone(codes)
	b, ok := impl.BddFrom(vars, codes)
	wantBdd(t, b, ok, tableFrom(vars, codes...), vars, codes)
	slices.Sort(kept)
	kept = slices.Compact(kept)
	got, ok := impl.BddCodes(b)
	if !ok || !slices.Equal(got, kept) {
		t.Fatal("told", got, ok, "want", kept)
	}
	first, ok := impl.BddLeast(b)
	if ok != (len(kept) > 0) || first != append(kept, 0)[0] {
		t.Fatal("the least", first, ok, "of", kept)
	}
}

func TestP28ListsOfNumbers(t *testing.T) {
	for vars := range impl.BddVarsMax + 1 {
		checkList(t, vars, nil)
		checkList(t, vars, []int{})
		checkList(t, vars, list(0))
		checkList(t, vars, list(power(vars)-1))
		checkList(t, vars, list(power(vars)-1, 0, power(vars)-1, 0))
		checkList(t, vars, repeated(power(vars)-1, impl.CodesMax))
	}
	for vars := range 5 {
		for number := range power(power(min(vars, 3))) {
			codes := tableOf(vars, func(n int) bool { return bit(number, n%8) == 1 }).codes()
			checkList(t, vars, codes)
			slices.Reverse(codes)
			checkList(t, vars, append(codes, codes...))
		}
	}
	r := rand.New(rand.NewPCG(28, 1))
	for vars := 3; vars <= impl.BddVarsMax; vars++ {
		for _, count := range list(1, 2, 7, 50, impl.CodesMax-1, impl.CodesMax) {
			var codes []int
			for range count {
				codes = append(codes, r.IntN(power(vars)))
			}
			checkList(t, vars, codes)
			checkList(t, vars, r.Perm(power(vars))[:min(count, power(vars))])
		}
	}
}

// The nodes ask low bits first: the least number need not be met by going on by Lo.
func TestP28TheLeastNumber(t *testing.T) {
	checkList(t, 3, list(3, 4))
	checkList(t, 3, list(1, 6))
	checkList(t, 13, list(4096, 4095))
	checkList(t, 13, list(8191, 8190, 6000))
	for vars := range impl.BddVarsMax + 1 {
		for least := range min(power(vars), 40) {
			l := tableOf(vars, func(n int) bool { return n >= least })
			first, ok := impl.BddLeast(set(t, l))
			if first != least || !ok {
				t.Fatal("the least", first, ok, "want", least)
			}
		}
	}
}

// Sets of CodesMax numbers, and of one more.
func TestP28AsManyNumbersAsAList(t *testing.T) {
	for vars := 9; vars <= impl.BddVarsMax; vars++ {
		for _, from := range list(0, 1, 100, power(vars)-impl.CodesMax-1) {
			l := tableOf(vars, func(n int) bool { return n >= from && n < from+impl.CodesMax })
			codes, ok := impl.BddCodes(set(t, l))
			if !ok || !slices.Equal(codes, l.codes()) || len(codes) != impl.CodesMax {
				t.Fatal("told", codes, ok)
			}
			l = l.toggled(from + impl.CodesMax)
			codes, ok = impl.BddCodes(set(t, l))
			if ok || len(codes) != 0 {
				t.Fatal("told", codes, ok, "of one more")
			}
			wantInt(t, impl.BddCount(set(t, l)), impl.CodesMax+1, "numbers")
		}
	}
	for vars := range impl.BddVarsMax + 1 {
		b, _ := impl.BddConst(vars, true)
		codes, ok := impl.BddCodes(b)
		if ok != (vars <= 8) || len(codes) != power(vars)*flag(ok) {
			t.Fatal("all", len(codes), ok, "of", vars)
		}
	}
	s := bddBrink()
	if codes, ok := impl.BddCodes(set(t, s.l)); ok || len(codes) != 0 {
		t.Fatal("told", codes, ok)
	}
}

// The list that is told is new memory, and the one that was given is as it was.
func TestP28MemoryIsKeptApart(t *testing.T) {
	given := append(list(9, 3, 9, 0, 12), 777)[:5]
	b, ok := impl.BddFrom(4, given)
	codes, also := impl.BddCodes(b)
	if !ok || !also || !slices.Equal(given[:6], list(9, 3, 9, 0, 12, 777)) {
		t.Fatal("the list that was given", given[:6], ok, also)
	}
	room := codes[:cap(codes)]
	for i := range room {
		room[i] = 1
	}
	again, _ := impl.BddCodes(b)
	if !slices.Equal(again, list(0, 3, 9, 12)) {
		t.Fatal("told", again)
	}
}

// checkText holds a set's text to its nodes, and reads it back.
func checkText(t *testing.T, b impl.Bdd) string {
	t.Helper()
	var want strings.Builder
	line := func(begin string, numbers ...int) {
		want.WriteString(begin)
		for i, n := range numbers {
			want.WriteString(strings.Repeat(" ", flag(i > 0)) + strconv.Itoa(n))
		}
		want.WriteString("\n")
	}
	line("set ", b.Vars, b.Root)
	for _, n := range b.Nodes {
		line("", n.Var, n.Lo, n.Hi)
	}
	text := impl.BddText(b)
	if text != want.String() {
		t.Fatalf("text %q, want %q", text, want.String())
	}
	again, ok := impl.BddRead(text)
	if !ok || !sameBdd(again, b) {
		t.Fatalf("read %v %v of %q", again, ok, text)
	}
	return text
}

func TestP29TextsOfSets(t *testing.T) {
	for vars := range 4 {
		for _, l := range allTables(vars) {
			checkText(t, set(t, l))
		}
	}
	r := rand.New(rand.NewPCG(29, 1))
	for vars := 4; vars <= impl.BddVarsMax; vars++ {
		for _, l := range someTables(r, vars, 20) {
			checkText(t, set(t, l))
		}
	}
}

func TestP29LargestDiagrams(t *testing.T) {
	s := bddBrink()
	text := checkText(t, set(t, s.l))
	wantInt(t, strings.Count(text, "\n"), impl.BddMax+1, "lines")
	b := diagram(s.l.toggled(s.more))
	if impl.BddText(b) != "" {
		t.Fatal("a text of a node more")
	}
	// A text in which a node stands twice is none, either.
	got, ok := impl.BddRead(text + "0 0 1\n")
	wantNoBdd(t, got, ok, "a line more")
	var lines strings.Builder
	lines.WriteString("set " + strconv.Itoa(b.Vars) + " " + strconv.Itoa(b.Root) + "\n")
	for _, n := range b.Nodes {
		lines.WriteString(strconv.Itoa(n.Var) + " " + strconv.Itoa(n.Lo) + " " + strconv.Itoa(n.Hi) + "\n")
	}
	got, ok = impl.BddRead(lines.String())
	wantNoBdd(t, got, ok, "a node more")
}

func TestP30MoreBits(t *testing.T) {
	check := func(l table) {
		b := set(t, l)
		for vars := b.Vars; vars <= impl.BddVarsMax; vars++ {
			got, ok := impl.BddGrow(b, vars)
			wantBdd(t, got, ok, grown(l, vars), "grown to", vars, b)
			wantInt(t, impl.BddCount(got), impl.BddCount(b)*power(vars-b.Vars), "the count of", got)
			for i := b.Vars; i <= vars; i++ {
				if impl.BddUses(got, i) {
					t.Fatal("hangs on the new bit", i, got)
				}
			}
		}
	}
	for vars := range 3 {
		for _, l := range allTables(vars) {
			check(l)
		}
	}
	r := rand.New(rand.NewPCG(30, 1))
	for vars := 3; vars <= impl.BddVarsMax; vars++ {
		for _, l := range someTables(r, vars, 5) {
			check(l)
		}
	}
	check(tableWith(r, make(table, power(12)), nodeCount, impl.BddMax))
	check(bddBrink().l)
}

// By the calls: a number is in the larger set just if its low bits are in the set.
func TestP30LowBitsAreInTheSet(t *testing.T) {
	r := rand.New(rand.NewPCG(30, 2))
	for vars := range 9 {
		for _, l := range someTables(r, vars, 4) {
			b := set(t, l)
			got, ok := impl.BddGrow(b, vars+2)
			for n := range power(vars + 2) {
				if !ok || impl.BddEval(got, n) != impl.BddEval(b, n%power(vars)) {
					t.Fatal("the number", n, "of", got, "from", b)
				}
			}
		}
	}
}

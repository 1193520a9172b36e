package tests

import (
	"bytes"
	"math/rand/v2"
	"slices"
	"sync"
	"testing"

	"loop.example/leadline/impl"
)

// table is a set, told number by number: 1 for each that it has, else 0.
type table []byte

// tableOf is the set of the numbers of that many bits of which a rule is true.
func tableOf(vars int, rule func(n int) bool) table {
	l := make(table, power(vars))
	for n := range l {
		l[n] = byte(flag(rule(n)))
	}
	return l
}

func tableFrom(vars int, codes ...int) table {
	return tableOf(vars, func(n int) bool { return slices.Contains(codes, n) })
}

func tableVars(l table) int {
	vars := 0
	for power(vars) < len(l) {
		vars++
	}
	return vars
}

// bit is bit i of a number.
func bit(n int, i int) int { return n / power(i) % 2 }

// withBit is a number with a bit set to a value.
func withBit(n int, i int, value int) int { return n + (value-bit(n, i))*power(i) }

func (l table) codes() []int {
	var codes []int
	for n := range l {
		if l[n] == 1 {
			codes = append(codes, n)
		}
	}
	return codes
}

// toggled is the set with one number more, or less.
func (l table) toggled(n int) table {
	other := slices.Clone(l)
	other[n] = 1 - other[n]
	return other
}

// halves are the sets of the numbers without bit 0, and of those with it, each number without that bit.
func (l table) halves() [2]table {
	var halves [2]table
	for n := range l {
		halves[n%2] = append(halves[n%2], l[n])
	}
	return halves
}

// maker lays down a set's diagram from what the numbers say; a place is kept by all that can be met from it.
type maker struct {
	nodes  []impl.BddNode
	places map[string]int
}

// diagram is the one diagram of a set, however many nodes it has.
func diagram(l table) impl.Bdd {
	vars := tableVars(l)
	m := &maker{places: map[string]int{}}
	root := m.place(0, l)
	return impl.Bdd{Vars: vars, Nodes: m.nodes, Root: root}
}

func (m *maker) place(v int, l table) int {
	if !bytes.Contains(l, []byte{1 - l[0]}) {
		return int(l[0])
	}
	if at, ok := m.places[string(l)]; ok {
		return at
	}
	halves := l.halves()
	if bytes.Equal(halves[0], halves[1]) {
		return m.place(v+1, halves[0])
	}
	lo := m.place(v+1, halves[0])
	hi := m.place(v+1, halves[1])
	m.nodes = append(m.nodes, impl.BddNode{Var: v, Lo: lo, Hi: hi})
	m.places[string(l)] = len(m.nodes) + 1
	return len(m.nodes) + 1
}

// goesOn says whether one can go on from Root, by any number, to an end.
func goesOn(b impl.Bdd) bool {
	isPlace := func(place int, count int) bool { return place >= 0 && place < count+2 }
	if b.Vars < 0 || b.Vars > impl.BddVarsMax || !isPlace(b.Root, len(b.Nodes)) {
		return false
	}
	for k, n := range b.Nodes {
		for _, place := range list(n.Lo, n.Hi) {
			if !isPlace(place, k) || place > 1 && b.Nodes[place-2].Var <= n.Var {
				return false
			}
		}
		if n.Var < 0 || n.Var >= b.Vars {
			return false
		}
	}
	return true
}

// met is the set that a diagram tells, of which goesOn is true.
func met(b impl.Bdd) table {
	return tableOf(b.Vars, func(n int) bool {
		place := b.Root
		for place > 1 {
			node := b.Nodes[place-2]
			place = []int{node.Lo, node.Hi}[bit(n, node.Var)]
		}
		return place == 1
	})
}

// wantBddOk says whether a diagram is ok: it is the one diagram of the set that it tells.
func wantBddOk(b impl.Bdd) bool {
	return len(b.Nodes) <= impl.BddMax && goesOn(b) && sameBdd(b, diagram(met(b)))
}

func sameBdd(a impl.Bdd, b impl.Bdd) bool {
	return a.Vars == b.Vars && a.Root == b.Root && slices.Equal(a.Nodes, b.Nodes)
}

func copyBdd(b impl.Bdd) impl.Bdd {
	return impl.Bdd{Vars: b.Vars, Nodes: slices.Clone(b.Nodes), Root: b.Root}
}

// set is the diagram of a set, which must not be too large.
func set(t *testing.T, l table) impl.Bdd {
	t.Helper()
	b := diagram(l)
	if !impl.BddOk(b) {
		t.Fatal("not ok:", b)
	}
	return b
}

// wantBdd holds an answer to the one diagram of a set, or to nothing, if that is too large.
func wantBdd(t *testing.T, b impl.Bdd, ok bool, l table, what ...any) {
	t.Helper()
	want := diagram(l)
	if len(want.Nodes) > impl.BddMax {
		wantNoBdd(t, b, ok, what...)
	} else if !ok || !sameBdd(b, want) {
		t.Fatal(append([]any{"got", b, ok, "want", want, "of"}, what...)...)
	}
}

func wantNoBdd(t *testing.T, b impl.Bdd, ok bool, what ...any) {
	t.Helper()
	if ok || !sameBdd(b, impl.Bdd{}) {
		t.Fatal(append([]any{"not refused:", b, ok, "of"}, what...)...)
	}
}

// binary is a function that makes a set of two, and what it should make of what both say of a number.
type binary struct {
	word string
	f    func(a impl.Bdd, b impl.Bdd) (impl.Bdd, bool)
	rule func(a byte, b byte) bool
}

func binaries() []binary {
	return []binary{
		{"and", impl.BddAnd, func(a byte, b byte) bool { return a == 1 && b == 1 }},
		{"or", impl.BddOr, func(a byte, b byte) bool { return a == 1 || b == 1 }},
		{"xor", impl.BddXor, func(a byte, b byte) bool { return a != b }},
	}
}

func (p binary) table(a table, b table) table {
	return tableOf(tableVars(a), func(n int) bool { return p.rule(a[n], b[n]) })
}

// Functions that make a set of one, told number by number.

func others(l table) table { return tableOf(tableVars(l), func(n int) bool { return l[n] == 0 }) }

func fixed(l table, i int, value int) table {
	return tableOf(tableVars(l), func(n int) bool { return l[withBit(n, i, value)] == 1 })
}

func open(l table, i int) table {
	return tableOf(tableVars(l), func(n int) bool { return l[withBit(n, i, 0)] == 1 || l[withBit(n, i, 1)] == 1 })
}

func grown(l table, vars int) table {
	return tableOf(vars, func(n int) bool { return l[n%len(l)] == 1 })
}

func chosen(c table, a table, b table) table {
	return tableOf(tableVars(c), func(n int) bool { return []table{b, a}[c[n]][n] == 1 })
}

// usesBit says whether a set hangs on a bit.
func usesBit(l table, i int) bool {
	return slices.ContainsFunc(l.all(), func(n int) bool { return l[withBit(n, i, 0)] != l[withBit(n, i, 1)] })
}

// all are all numbers of a set's bits.
func (l table) all() []int { return others(make(table, len(l))).codes() }

// allTables are all sets of numbers of that many bits.
func allTables(vars int) []table {
	var l []table
	for number := range power(power(vars)) {
		l = append(l, tableOf(vars, func(n int) bool { return bit(number, n) == 1 }))
	}
	return l
}

// madeUpTable is a set of one of many shapes: a few numbers, about half of them, or what hangs on a few bits.
func madeUpTable(r *rand.Rand, vars int) table {
	size := power(vars)
	switch r.IntN(7) {
	case 0:
		return make(table, size).toggled(r.IntN(size))
	case 1:
		return others(tableFrom(vars, r.IntN(size), r.IntN(size), r.IntN(size)))
	case 2:
		return tableOf(vars, func(n int) bool { return r.IntN(2) == 0 })
	case 3:
		return tableOf(vars, func(n int) bool { return r.IntN(20) == 0 })
	case 4:
		from, to := r.IntN(size), r.IntN(size)
		return tableOf(vars, func(n int) bool { return n >= from && n < to })
	case 5:
		step := 2 + r.IntN(9)
		return tableOf(vars, func(n int) bool { return n%step == 0 })
	}
	mask := r.IntN(size)
	small := tableOf(vars, func(n int) bool { return r.IntN(2) == 0 })
	return tableOf(vars, func(n int) bool { return small[n&mask] == 1 })
}

// someTables are that many made up sets of so many bits, none of them too large.
func someTables(r *rand.Rand, vars int, count int) []table {
	var l []table
	for len(l) < count {
		if made := madeUpTable(r, vars); len(diagram(made).Nodes) <= impl.BddMax {
			l = append(l, made)
		}
	}
	return l
}

// tableWith changes a set number by number till a count of it is met.
func tableWith(r *rand.Rand, l table, count func(l table) int, goal int) table {
	far := func(l table) int { return max(count(l)-goal, goal-count(l)) }
	best := far(l)
	for best > 0 {
		other := l.toggled(r.IntN(len(l)))
		if d := far(other); d <= best {
			l, best = other, d
		}
	}
	return l
}

func nodeCount(l table) int { return len(diagram(l).Nodes) }

// brink is a set of BddMax nodes, and two numbers by which it gets one node more: the first is put to it, the second taken from it.
type brink struct {
	l     table
	more  int
	fewer int
}

// bddBrink is a brink of the most bits; it is looked for once.
var bddBrink = sync.OnceValue(func() brink {
	r := rand.New(rand.NewPCG(26, 9))
	for {
		l := tableWith(r, make(table, power(impl.BddVarsMax)), nodeCount, impl.BddMax)
		s := brink{l: l, more: -1, fewer: -1}
		for _, n := range r.Perm(len(l)) {
			if nodeCount(l.toggled(n)) != impl.BddMax+1 {
				continue
			}
			if l[n] == 0 {
				s.more = n
			} else {
				s.fewer = n
			}
			if s.more >= 0 && s.fewer >= 0 {
				return s
			}
		}
	}
})

// openBrink is a set that is not too large, but gets as many nodes as asked for when a bit is left open.
func openBrink(t *testing.T, i int, goal int) table {
	t.Helper()
	r := rand.New(rand.NewPCG(27, uint64(i)))
	openCount := func(l table) int { return nodeCount(open(l, i)) }
	// Each half hangs on few bits, and both together on many.
	masks := list(0b1101101100100, 0b1111011011011)
	for range 100 {
		free := tableOf(impl.BddVarsMax+1, func(n int) bool { return r.IntN(4) == 0 })
		l := tableOf(impl.BddVarsMax, func(n int) bool { return free[2*(n&masks[bit(n, i)])+bit(n, i)] == 1 })
		if count := openCount(l); count < goal-20 || count > goal+20 {
			continue
		}
		if l = tableWith(r, l, openCount, goal); nodeCount(l) <= impl.BddMax {
			return l
		}
	}
	t.Fatal("no set found")
	return nil
}

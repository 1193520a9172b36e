package tests

import (
	"slices"
	"strconv"
	"strings"
	"testing"

	"loop.example/leadline/impl"
)

// The rules by which a node is laid down, each held to what a test tells of it.

// pool is a model of words of a width that is folded to itself, with places that a node is made of, and what is laid down of two of them.
type pool struct {
	impl.Model
	w    int
	at   map[string]int
	fits map[[3]int]string
}

// poolOf has two inputs of one bit, two words that are no constants, some constants, and a word that serves for nothing else.
func poolOf(t *testing.T, w int, constantsFirst bool) pool {
	t.Helper()
	p := pool{w: w, at: map[string]int{}, fits: map[[3]int]string{}}
	add := func(name string, n impl.Node) {
		at := slices.Index(p.Nodes, n)
		if at < 0 {
			at = len(p.Nodes)
			p.Nodes = append(p.Nodes, n)
		}
		p.at[name] = at
	}
	constants := func() {
		add("zero", constNode(w, 0))
		add("one", constNode(w, 1))
		add("top", constNode(w, power(w)-1))
		add("two", constNode(w, 2%power(w)))
		add("under", constNode(w, (power(w)-2)%power(w)))
	}
	if constantsFirst {
		constants()
	}
	add("go", impl.Node{Kind: impl.OpInput, Sort: words(1), Name: "go"})
	add("no", impl.Node{Kind: impl.OpInput, Sort: words(1), Name: "no"})
	small := min(w, 4)
	add("x", impl.Node{Kind: impl.OpState, Sort: words(small), Name: "x"})
	add("y", impl.Node{Kind: impl.OpState, Sort: words(small), Name: "y"})
	if w > 4 {
		add("x", impl.Node{Kind: impl.OpZext, A: p.at["x"], N: w - 4, Sort: words(w)})
		add("y", impl.Node{Kind: impl.OpSext, A: p.at["y"], N: w - 4, Sort: words(w)})
	}
	add("spare", impl.Node{Kind: impl.OpIf, A: p.at["no"], B: p.at["x"], C: p.at["y"], Sort: words(w)})
	if !constantsFirst {
		constants()
	}
	if !sameModel(impl.ModelFold(p.Model), p.Model) {
		t.Fatal("the pool is folded", p.Model)
	}
	p.addFits("x")
	p.addFits("y")
	return p
}

func eachPool(t *testing.T, f func(p pool)) {
	t.Helper()
	for _, w := range list(1, 2, 3, 4, 15, 16) {
		f(poolOf(t, w, false))
		f(poolOf(t, w, true))
	}
}

// sorted is a node with the sort that it should have behind the pool, and whether there may be such a node.
func (p pool) sorted(n impl.Node) (impl.Node, bool) {
	s, ok := wantSort(p.Nodes, n)
	n.Sort = s
	return n, ok
}

// spareOf is the place of a word of a width that is no part of what is laid down.
func (p pool) spareOf(width int) int {
	if width == 1 {
		return p.at["no"]
	}
	return p.at["spare"]
}

// check holds the place where a node is laid down behind the pool to what a test tells; where it is a new place, to what is put there.
func (p pool) check(t *testing.T, n impl.Node, at int, put ...impl.Node) {
	t.Helper()
	m, want := copyModel(p.Model), copyModel(p.Model)
	m.Nodes = append(m.Nodes, n)
	want.Nodes = append(want.Nodes, put...)
	place := len(p.Nodes)
	// Another width's words are looked at by a node that has one part.
	user := impl.Node{Kind: impl.OpOdd, A: place, Sort: words(1)}
	if n.Sort.Width == 1 || n.Sort.Width == p.w {
		user = impl.Node{Kind: impl.OpIf, A: p.at["go"], B: place, C: p.spareOf(n.Sort.Width), Sort: n.Sort}
	}
	m.Nodes = append(m.Nodes, user)
	if want.Nodes[at].Kind == impl.OpConst && user.Kind == impl.OpOdd {
		user = constNode(1, one(t, impl.OpOdd, n.Sort.Width, want.Nodes[at].N))
	} else if user.Kind == impl.OpOdd {
		user.A = at
	} else {
		user.B = at
	}
	if !slices.Contains(want.Nodes, user) {
		want.Nodes = append(want.Nodes, user)
	}
	if n.Sort.Width == 1 {
		m.Bads, m.Holds = list(place, place), list(place)
		want.Bads, want.Holds = list(at, at), list(at)
	}
	if state := slices.IndexFunc(m.Nodes, func(o impl.Node) bool { return o.Kind == impl.OpState && o.Sort == n.Sort }); state >= 0 {
		m.Nexts = []impl.Bind{{State: state, Node: place}}
		want.Nexts = []impl.Bind{{State: state, Node: at}}
	}
	if got := impl.ModelFold(m); !sameModel(got, want) {
		t.Fatal("folded", got, "want", want, "of", m)
	}
	checkFold(t, m)
}

// checkConstant holds the place where a node is laid down to that of a constant, which may be in the pool or not.
func (p pool) checkConstant(t *testing.T, n impl.Node, w int, v int) {
	t.Helper()
	c := constNode(w, v)
	if at := slices.Index(p.Nodes, c); at >= 0 {
		p.check(t, n, at)
		return
	}
	p.check(t, n, len(p.Nodes), c)
}

// twoFits tells what is laid down, where a rule fits two parts, v being no constant; all else is put, or known.
const twoFits = `and v v v
or v v v
xor v v zero
sub v v zero
eq v v true
most v v true
smost v v true
less v v false
sless v v false
and zero v zero
and v zero zero
and top v v
and v top v
or zero v v
or v zero v
or top v top
or v top top
xor zero v v
xor v zero v
add zero v v
add v zero v
mul zero v zero
mul v zero zero
mul one v v
mul v one v
sub v zero v
shl v zero v
shr v zero v
sar v zero v
rol v zero v
ror v zero v`

// addFits adds what the table tells of a word that is no constant.
func (p pool) addFits(v string) {
	place := func(word string) int {
		if word == "v" {
			word = v
		}
		return p.at[word]
	}
	for _, line := range strings.Split(twoFits, "\n") {
		words := strings.Fields(line)
		if words[3] == "v" {
			words[3] = v
		}
		for _, row := range kindRows() {
			if row.word == words[0] {
				p.fits[[3]int{row.kind, place(words[1]), place(words[2])}] = words[3]
			}
		}
	}
}

// known says whether nodes are constants.
func (p pool) known(places ...int) bool {
	return !slices.ContainsFunc(places, func(at int) bool { return p.Nodes[at].Kind != impl.OpConst })
}

// parts are the places of what nodes are made of: two words that are no constants, and all constants.
func (p pool) parts() []int {
	l := list(p.at["x"], p.at["y"], p.at["zero"], p.at["one"], p.at["two"], p.at["under"], p.at["top"])
	slices.Sort(l)
	return slices.Compact(l)
}

// checkTwo holds a node of two parts to the table of what fits.
func (p pool) checkTwo(t *testing.T, n impl.Node) {
	t.Helper()
	fit := p.fits[[3]int{n.Kind, n.A, n.B}]
	switch {
	case p.known(n.A, n.B):
		v := wantWord(t, p.Nodes, n, list(p.Nodes[n.A].N), list(p.Nodes[n.B].N))
		p.checkConstant(t, n, n.Sort.Width, v)
	case fit == "true" || fit == "false":
		p.checkConstant(t, n, 1, flag(fit == "true"))
	case fit != "":
		p.check(t, n, p.at[fit])
	default:
		put := n
		if n.A > n.B && slices.Contains(evenKinds(), n.Kind) {
			put.A, put.B = n.B, n.A
		}
		p.check(t, n, len(p.Nodes), put)
	}
}

// All kinds of two words, with all pairs of parts: what the table tells fits, and nothing else does.
func TestP6RulesOfTwoParts(t *testing.T) {
	eachPool(t, func(p pool) {
		for _, row := range kindRows() {
			if row.parts != 2 || row.kind == impl.OpRead {
				continue
			}
			for _, a := range p.parts() {
				for _, b := range p.parts() {
					if n, ok := p.sorted(impl.Node{Kind: row.kind, A: a, B: b}); ok {
						p.checkTwo(t, n)
					}
				}
			}
		}
	})
}

// All kinds of one word: what stays as wide is left, all else is put, or known.
func TestP6RulesOfOnePart(t *testing.T) {
	eachPool(t, func(p pool) {
		for _, n := range oneNodes(p.w) {
			for _, n.A = range p.parts() {
				n, ok := p.sorted(n)
				if !ok {
					continue
				}
				whole := n.Kind == impl.OpSlice && n.M == 0 && n.N == p.w-1
				none := (n.Kind == impl.OpZext || n.Kind == impl.OpSext) && n.N == 0
				switch {
				case p.known(n.A):
					p.checkConstant(t, n, n.Sort.Width, wantWord(t, p.Nodes, n, list(p.Nodes[n.A].N), nil))
				case whole || none:
					p.check(t, n, n.A)
				case slices.Contains(p.Nodes, n):
					// The pool has nodes that grow a state to what it is made of.
					p.check(t, n, slices.Index(p.Nodes, n))
				default:
					p.check(t, n, len(p.Nodes), n)
				}
			}
		}
	})
}

// oneNodes are nodes of all kinds of one part, with the numbers that they may have by a width.
func oneNodes(w int) []impl.Node {
	var l []impl.Node
	for _, row := range kindRows() {
		switch {
		case row.kind == impl.OpSlice:
			for hi := range w {
				for lo := range hi + 1 {
					l = append(l, impl.Node{Kind: row.kind, N: hi, M: lo})
				}
			}
		case row.kind == impl.OpZext || row.kind == impl.OpSext:
			for more := range impl.WordMax - w + 1 {
				l = append(l, impl.Node{Kind: row.kind, N: more})
			}
		case row.parts == 1:
			l = append(l, impl.Node{Kind: row.kind})
		}
	}
	return l
}

// A choice of words: by a constant it is made, of one and the same there is none.
func TestP6RulesOfChoices(t *testing.T) {
	eachPool(t, func(p pool) {
		for _, b := range p.parts() {
			for _, c := range p.parts() {
				n := impl.Node{Kind: impl.OpIf, A: p.at["go"], B: b, C: c, Sort: words(p.w)}
				if b == c {
					p.check(t, n, b)
				} else {
					p.check(t, n, len(p.Nodes), n)
				}
				for v, want := range list(c, b) {
					known := p
					known.Model = copyModel(p.Model)
					n.A = len(known.Nodes)
					if p.w == 1 {
						n.A = p.at[[]string{"zero", "one"}[v]]
					} else {
						known.Nodes = append(known.Nodes, constNode(1, v))
					}
					known.check(t, n, want)
				}
			}
		}
	})
}

// What is known is as wide as the node that it stands for, whatever it is made of.
func TestP6ConstantsOfOtherWidths(t *testing.T) {
	checkFoldText(t, "0 const 3 5\n1 const 5 9\n2 join 0 1\n3 slice 2 6 2\n4 zext 0 2\n5 sext 0 2\n6 odd 2\n7 less 0 0\n8 join 7 7\n",
		"0 const 3 5\n1 const 5 9\n2 const 8 169\n3 const 5 10\n4 const 5 5\n5 const 5 29\n6 const 1 0\n7 const 2 0\n")
	checkFoldText(t, "0 state 3 x\n1 sub 0 0\n2 less 0 0\n3 sless 0 0\n4 xor 0 0\n5 eq 0 0\n6 most 0 0\n7 smost 0 0\n8 zext 5 2\n",
		"0 state 3 x\n1 const 3 0\n2 const 1 0\n3 const 1 1\n4 const 3 1\n")
	checkFoldText(t, "0 state 1 x\n1 sub 0 0\n2 less 0 0\n3 eq 0 0\n4 xor 3 0\n", "0 state 1 x\n1 const 1 0\n2 const 1 1\n3 xor 0 2\n")
	checkFoldText(t, "0 const 16 65535\n1 mul 0 0\n2 mover 0 0\n3 add 0 1\n4 carry 0 1\n5 div 0 3\n6 sdiv 0 3\n7 rem 0 3\n",
		"0 const 16 65535\n1 const 16 1\n2 const 1 1\n3 const 16 0\n")
	checkFoldText(t, "0 state 2:1 m\n1 state 2:1 n\n2 eq 0 0\n3 eq 1 0\n4 eq 0 1\n", "0 state 2:1 m\n1 state 2:1 n\n2 const 1 1\n3 eq 0 1\n")
}

// A constant is put where it is met first; one that is like it is the same, wherever it comes from.
func TestP6ConstantsArePutOnce(t *testing.T) {
	// Put, again, and then one of the model's own.
	checkFoldText(t, "0 state 3 x\n1 state 3 y\n2 sub 0 0\n3 xor 1 1\n4 const 3 0\n5 add 4 0\n6 div 0 4\n",
		"0 state 3 x\n1 state 3 y\n2 const 3 0\n3 div 0 2\n")
	// One of the model's own is ahead.
	checkFoldText(t, "0 state 3 x\n1 const 3 0\n2 const 1 0\n3 sub 0 0\n4 less 0 0\n5 join 3 4\nbad 4\nbad 2\n",
		"0 state 3 x\n1 const 3 0\n2 const 1 0\n3 const 4 0\nbad 2\nbad 2\n")
	// One of another width, and one of another value, are others.
	checkFoldText(t, "0 state 3 x\n1 const 4 0\n2 const 3 1\n3 const 1 0\n4 sub 0 0\n5 rem 0 4\n",
		"0 state 3 x\n1 const 4 0\n2 const 3 1\n3 const 1 0\n4 const 3 0\n5 rem 0 4\n")
	// All that the model has of its own, twice.
	checkFoldText(t, "0 const 2 3\n1 const 2 3\n2 const 3 3\n3 const 2 2\n4 const 3 3\n5 add 1 3\n6 const 2 1\n7 join 6 4\n",
		"0 const 2 3\n1 const 3 3\n2 const 2 2\n3 const 2 1\n4 const 5 11\n")
	// What is like a constant but for its width, where the sum is put.
	checkFoldText(t, "0 const 1 1\n1 add 0 0\n2 join 0 1\n3 const 2 2\n4 const 2 0\n5 add 2 4\n", "0 const 1 1\n1 const 1 0\n2 const 2 2\n3 const 2 0\n")
}

func TestP6ReadingWhatIsPut(t *testing.T) {
	base := "0 state 1:2 m\n1 input 1 i\n2 input 1 j\n3 input 2 v\n4 const 1 0\n5 const 1 1\n6 put 0 1 3\n"
	laid := func(lines string, want string) { checkFoldText(t, base+lines, base+want) }
	// The cell that was put, and another one, which may be the same in a run.
	laid("7 read 6 1\n8 neg 7\n", "7 neg 3\n")
	laid("7 read 6 2\n8 neg 7\n", "7 read 6 2\n8 neg 7\n")
	laid("7 read 0 1\n8 neg 7\n", "7 read 0 1\n8 neg 7\n")
	// By constants.
	laid("7 put 0 4 3\n8 read 7 4\n9 neg 8\n10 read 7 5\n", "7 put 0 4 3\n8 neg 3\n9 read 7 5\n")
	// By what comes to be the same place: another constant, a choice, a word that is turned twice.
	laid("7 put 6 5 3\n8 const 1 1\n9 read 7 8\n10 neg 9\n", "7 put 6 5 3\n8 neg 3\n")
	laid("7 if 5 1 2\n8 read 6 7\n9 neg 8\n", "7 neg 3\n")
	laid("7 not 2\n8 not 7\n9 put 0 8 3\n10 read 9 2\n11 neg 10\n", "7 not 2\n8 put 0 2 3\n9 neg 3\n")
	// Only what was put last is looked at.
	laid("7 put 6 2 3\n8 read 7 1\n9 neg 8\n", "7 put 6 2 3\n8 read 7 1\n9 neg 8\n")
	laid("7 put 6 2 3\n8 read 7 2\n9 neg 8\n", "7 put 6 2 3\n8 neg 3\n")
	laid("7 put 6 1 3\n8 read 7 1\n9 neg 8\n", "7 put 6 1 3\n8 neg 3\n")
	laid("7 if 2 6 0\n8 read 7 1\n9 neg 8\n", "7 if 2 6 0\n8 read 7 1\n9 neg 8\n")
	// An array that comes to be what was put.
	laid("7 if 1 6 6\n8 read 7 1\n9 neg 8\n", "7 neg 3\n")
	laid("7 put 0 1 3\n8 read 7 1\n9 neg 8\n", "7 neg 3\n")
	// What is put may be a constant, of which more is then known.
	laid("7 sub 3 3\n8 put 0 1 7\n9 read 8 1\n10 not 9\n", "7 const 2 0\n8 put 0 1 7\n9 const 2 3\n")
	// What was put is not what stands first, where both are words of one width.
	checkFoldText(t, "0 state 1:1 m\n1 input 1 i\n2 input 1 v\n3 put 0 1 2\n4 read 3 1\n5 read 3 2\n6 and 4 5\n",
		"0 state 1:1 m\n1 input 1 i\n2 input 1 v\n3 put 0 1 2\n4 read 3 2\n5 and 2 4\n")
	checkFoldText(t, "0 state 2:1 m\n1 input 2 i\n2 input 1 v\n3 put 0 1 2\n4 read 3 1\n5 put 3 1 4\n6 read 5 1\nbad 6\n",
		"0 state 2:1 m\n1 input 2 i\n2 input 1 v\n3 put 0 1 2\n4 put 3 1 2\nbad 2\n")
}

// What undoes the node ahead of it is what that is made of; other kinds do not undo it.
func TestP6WhatUndoesItself(t *testing.T) {
	for _, w := range list(1, 2, 8) {
		x := "0 state " + strconv.Itoa(w) + " x\n"
		checkFoldText(t, x+"1 not 0\n2 not 1\n3 not 2\n4 odd 2\n5 odd 3\nnext 0 2\n", x+"1 not 0\n2 odd 0\n3 odd 1\nnext 0 0\n")
		checkFoldText(t, x+"1 neg 0\n2 neg 1\n3 neg 2\n4 odd 2\n5 odd 3\nnext 0 3\n", x+"1 neg 0\n2 odd 0\n3 odd 1\nnext 0 1\n")
		checkFoldText(t, x+"1 not 0\n2 neg 1\n3 not 2\n4 neg 3\n5 neg 4\nnext 0 5\n", x+"1 not 0\n2 neg 1\n3 not 2\n4 neg 3\nnext 0 3\n")
	}
	checkFoldText(t, "0 state 1 x\n1 any 0\n2 any 1\n3 all 2\n4 all 3\n5 odd 4\n6 odd 5\n", "0 state 1 x\n1 any 0\n2 any 1\n3 all 2\n4 all 3\n5 odd 4\n6 odd 5\n")
	checkFoldText(t, "0 state 3 x\n1 slice 0 2 0\n2 slice 1 1 0\n3 slice 2 1 0\n4 zext 3 0\n5 sext 4 0\n6 zext 5 1\n7 slice 6 1 0\n8 slice 6 2 0\n",
		"0 state 3 x\n1 slice 0 1 0\n2 zext 1 1\n3 slice 2 1 0\n")
	checkFoldText(t, "0 state 1 x\n1 slice 0 0 0\n2 zext 1 0\n3 sext 2 0\nbad 3\nnext 0 1\n", "0 state 1 x\nnext 0 0\nbad 0\n")
}

// Choices of arrays, and of what is known.
func TestP6ChoicesOfArrays(t *testing.T) {
	base := "0 state 1:2 m\n1 input 1 i\n2 input 2 v\n3 const 1 0\n4 const 1 1\n5 put 0 1 2\n"
	checkFoldText(t, base+"6 if 1 0 5\n7 if 3 0 5\n8 if 4 0 5\n9 if 1 5 5\n10 eq 7 8\n11 eq 6 9\nnext 0 7\n", base+"6 if 1 0 5\n7 eq 0 5\n8 eq 5 6\nnext 0 5\n")
	checkFoldText(t, base+"6 if 1 3 4\n7 if 1 4 4\n8 if 3 4 3\n9 if 4 4 3\nbad 6\nbad 7\nbad 8\nbad 9\n", base+"6 if 1 3 4\nbad 6\nbad 4\nbad 3\nbad 4\n")
	checkFoldText(t, base+"6 if 1 1 3\n7 if 1 4 1\n8 if 1 1 1\nbad 6\nbad 7\nbad 8\n", base+"6 if 1 1 3\n7 if 1 4 1\nbad 6\nbad 7\nbad 1\n")
}

// Nodes that two rules fit at once: nothing is put that the first of them does not put.
func TestP6WhatTwoRulesFit(t *testing.T) {
	// All parts are constants: no further rule has its say, and the constant is the one that is there.
	base := "0 const 3 0\n1 const 3 7\n2 const 1 0\n3 const 1 1\n4 const 3 1\n"
	for _, c := range [][2]string{
		{"and 0 0", "0"}, {"and 0 1", "0"}, {"and 1 0", "0"}, {"and 1 1", "1"}, {"or 0 1", "1"}, {"or 1 0", "1"}, {"or 1 1", "1"}, {"or 0 0", "0"},
		{"xor 0 0", "0"}, {"xor 0 1", "1"}, {"xor 1 0", "1"}, {"xor 1 1", "0"}, {"sub 1 1", "0"}, {"sub 1 0", "1"}, {"sub 0 0", "0"}, {"sub 0 1", "4"},
		{"add 0 0", "0"}, {"add 0 1", "1"}, {"mul 4 1", "1"}, {"mul 1 4", "1"}, {"mul 0 4", "0"}, {"mul 4 0", "0"}, {"mul 4 4", "4"}, {"mul 1 1", "4"},
		{"shl 1 0", "1"}, {"shr 1 0", "1"}, {"sar 1 0", "1"}, {"rol 1 0", "1"}, {"ror 1 0", "1"}, {"shl 0 0", "0"},
		{"if 3 0 0", "0"}, {"if 2 1 1", "1"}, {"if 2 0 1", "1"}, {"if 3 0 1", "0"}, {"slice 1 2 0", "1"}, {"zext 1 0", "1"}, {"sext 0 0", "0"},
		{"eq 0 0", "3"}, {"eq 0 1", "2"}, {"most 1 1", "3"}, {"less 1 1", "2"}, {"smost 0 0", "3"}, {"sless 0 0", "2"}, {"sless 1 0", "3"},
	} {
		m := read(t, base+"5 "+c[0]+"\n6 state 3 x\n7 state 1 y\n")
		if m.Nodes[5].Sort.Width == 3 {
			m.Nexts = []impl.Bind{{State: 6, Node: 5}}
		} else {
			m.Nexts = []impl.Bind{{State: 7, Node: 5}}
		}
		got := impl.ModelFold(m)
		if s := strings.SplitAfter(impl.ModelText(got), "\n")[:7]; strings.Join(s, "") != base+"5 state 3 x\n6 state 1 y\n" || strconv.Itoa(got.Nexts[0].Node) != c[1] {
			t.Fatal("folded", got, "of", c)
		}
		checkFold(t, m)
	}
	// A choice that is made, between what is the same.
	checkFoldText(t, "0 state 3 x\n1 const 1 0\n2 const 1 1\n3 if 1 0 0\n4 if 2 0 0\n5 neg 3\n6 not 4\n", "0 state 3 x\n1 const 1 0\n2 const 1 1\n3 neg 0\n4 not 0\n")
	// One bit: of two words that are the same, and of a constant.
	checkFoldText(t, "0 state 1 x\n1 const 1 1\n2 mul 0 1\n3 and 0 1\n4 or 0 1\n5 mul 0 0\n6 xor 0 1\nbad 2\nbad 3\nbad 4\nbad 5\n",
		"0 state 1 x\n1 const 1 1\n2 mul 0 0\n3 xor 0 1\nbad 0\nbad 0\nbad 1\nbad 2\n")
}

// Nodes come to fit by what their parts were laid down as, and so on.
func TestP6ChainsOfRules(t *testing.T) {
	checkFoldText(t, "0 state 4 x\n1 const 4 15\n2 and 0 1\n3 xor 2 0\n4 add 3 1\n5 mul 0 4\n6 not 4\n7 shl 5 6\n8 eq 7 5\n9 zext 8 3\n10 sub 9 9\n11 or 10 5\nnext 0 11\nbad 8\n",
		"0 state 4 x\n1 const 4 15\n2 const 4 0\n3 mul 0 1\n4 const 1 1\n5 const 4 1\nnext 0 3\nbad 4\n")
	checkFoldText(t, "0 state 2 x\n1 state 2 y\n2 add 0 1\n3 add 1 0\n4 eq 2 3\n5 if 4 0 1\n6 if 4 1 0\n7 sless 5 6\n8 sless 0 1\nbad 7\nhold 8\n",
		"0 state 2 x\n1 state 2 y\n2 add 0 1\n3 const 1 1\n4 sless 0 1\nbad 4\nhold 4\n")
	// Parts that come to stand in another order.
	checkFoldText(t, "0 state 2 x\n1 state 2 y\n2 not 0\n3 not 2\n4 mul 3 1\n5 mul 1 3\n6 sub 3 1\n7 sub 1 3\n8 carry 1 3\n9 carry 3 1\n",
		"0 state 2 x\n1 state 2 y\n2 not 0\n3 mul 0 1\n4 sub 0 1\n5 sub 1 0\n6 carry 0 1\n")
	checkFoldText(t, "0 state 2 x\n1 const 2 1\n2 const 2 3\n3 add 1 1\n4 add 3 1\n5 and 4 0\n6 xor 5 0\n7 or 0 6\n8 add 4 0\nnext 0 8\n",
		"0 state 2 x\n1 const 2 1\n2 const 2 3\n3 const 2 2\n4 const 2 0\n5 add 0 2\nnext 0 5\n")
}

// By the rules told one by one: models that are made up meet each rule by each kind that it names.
func TestP6MadeUpModelsMeetAllRules(t *testing.T) {
	named := map[int]string{
		2: "if", 3: "read", 4: "not neg slice zext sext", 5: "and or xor sub eq most smost less sless",
		6: "and or xor add mul", 7: "sub shl shr sar rol ror",
	}
	met := map[string]int{}
	for _, m := range foldableModels(600) {
		l := checkFold(t, m)
		for i, rule := range l.rules {
			met[strconv.Itoa(rule)+" "+rowOf(m.Nodes[i].Kind).word]++
		}
	}
	for _, row := range kindRows() {
		if row.parts > 0 && row.kind != impl.OpRead && row.kind != impl.OpPut {
			named[1] += " " + row.word
		}
		named[8] += " " + row.word
	}
	for rule, words := range named {
		for _, word := range strings.Fields(words) {
			key := strconv.Itoa(rule) + " " + word
			if met[key] < 5 {
				t.Error("rule and kind were met", met[key], "times:", key)
			}
			delete(met, key)
		}
	}
	if len(met) > 0 {
		t.Fatal("more rules than the document names", met)
	}
}

// Kinds, numbers, sorts and names stay, with nodes of all kinds, and with arrays of all indexes.
func TestP6WhatIsNoPartStays(t *testing.T) {
	for _, m := range append(someModels(), foldableModels(200)...) {
		l := checkFold(t, m)
		for i, n := range m.Nodes {
			got := l.Nodes[l.at[i]]
			if got.Sort != n.Sort {
				t.Fatal("another sort", got, "of", n, m)
			}
			if l.rules[i] == 8 && (got.Kind != n.Kind || got.N != n.N || got.M != n.M || got.Name != n.Name) {
				t.Fatal("put as", got, "of", n, m)
			}
		}
	}
	// Where no rule fits nothing changes, whatever nodes are behind each other.
	text := "0 state 1:1 a\n1 state 2:1 b\n2 input 1:1 c\n3 input 1 i\n4 input 2 j\n5 put 0 3 3\n6 put 1 4 3\n7 put 2 3 3\n8 if 3 1 6\n9 read 2 3\n10 eq 0 2\n11 eq 1 6\n12 state 2 d\n" +
		"13 slice 4 1 1\n14 slice 4 0 0\n15 zext 4 3\n16 zext 4 4\n17 sext 4 3\n18 const 2 2\n19 const 3 2\n20 const 2 3\n21 const 3 3\n"
	checkFoldText(t, text, text)
}

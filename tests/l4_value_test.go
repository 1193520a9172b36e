package tests

import (
	"math/rand/v2"
	"slices"
	"strconv"
	"testing"

	"loop.example/leadline/impl"
)

// P44: each node means what its kind says. P45: every value is of its node's sort.

// allKindsText is a text with nodes of all kinds that reckon with words alone, of the words x and y.
func allKindsText() string {
	text := "0 state 3 x\n1 input 3 y\n"
	at := 2
	for _, row := range kindRows() {
		own := map[int]string{impl.OpSlice: " 2 1", impl.OpZext: " 2", impl.OpSext: " 2"}[row.kind]
		if row.parts == 1 || row.parts == 2 && row.kind != impl.OpRead {
			text += strconv.Itoa(at) + " " + row.word + []string{"", " 0", " 0 1"}[row.parts] + own + "\n"
			at++
		}
	}
	return text
}

// The numbers are reckoned by hand, in the order of kinds.
func TestP44EachKindByHand(t *testing.T) {
	m := read(t, allKindsText())
	for _, c := range []struct {
		x, y int
		want []int
	}{
		{6, 2, []int{1, 2, 1, 0, 0, 2, 6, 4, 0, 4, 4, 3, 0, 7, 0, 0, 1, 7, 3, 5, 0, 0, 1, 0, 1, 1, 0, 1, 50, 3, 6, 30}},
		{2, 6, []int{5, 6, 1, 0, 1, 2, 6, 4, 0, 4, 4, 0, 2, 7, 0, 0, 0, 0, 2, 2, 0, 1, 0, 1, 0, 1, 0, 1, 22, 1, 2, 2}},
		{5, 3, []int{2, 3, 1, 0, 0, 1, 7, 6, 0, 2, 7, 1, 2, 7, 0, 0, 0, 7, 5, 5, 0, 0, 1, 0, 1, 1, 0, 1, 43, 2, 5, 29}},
		{3, 3, []int{4, 5, 1, 0, 0, 3, 3, 0, 6, 0, 1, 1, 0, 1, 0, 0, 0, 0, 3, 3, 1, 0, 0, 1, 1, 0, 1, 1, 27, 1, 3, 3}},
		{7, 1, []int{0, 1, 1, 1, 1, 1, 7, 6, 0, 6, 7, 7, 0, 7, 0, 6, 3, 7, 7, 7, 0, 0, 1, 0, 1, 1, 0, 0, 57, 3, 7, 31}},
		{4, 0, []int{3, 4, 1, 0, 1, 0, 4, 4, 4, 4, 0, 7, 4, 1, 4, 4, 4, 4, 4, 4, 0, 0, 1, 0, 1, 0, 0, 0, 32, 2, 4, 28}},
	} {
		checkAll(t, m, values(c.x), values(c.y), values(append([]int{c.x, c.y}, c.want...)...))
	}
}

func TestP44EachKindOfAllWords(t *testing.T) {
	m := read(t, allKindsText())
	eachMoment(m, func(s []impl.Value, in []impl.Value) {
		checkAll(t, m, s, in, wantAll(t, m, s, in))
	})
}

func TestP44MadeUpModels(t *testing.T) {
	r := rand.New(rand.NewPCG(44, 1))
	for _, m := range someModels() {
		someMoments(m, r, func(s []impl.Value, in []impl.Value) {
			checkAll(t, m, s, in, wantAll(t, m, s, in))
		})
	}
}

func TestP45ValuesAreOfTheirSort(t *testing.T) {
	r := rand.New(rand.NewPCG(45, 1))
	for _, m := range someModels() {
		someMoments(m, r, func(s []impl.Value, in []impl.Value) {
			l := impl.EvalAll(m, s, in)
			wantInt(t, len(l), len(m.Nodes), "values of", m)
			for i, n := range m.Nodes {
				sort, ok := impl.NodeSort(m.Nodes[:i], n)
				if !ok || sort != n.Sort || len(l[i].Cells) != power(sort.Index) {
					t.Fatal("value", l[i], "of", n, "sort", sort, ok)
				}
				for _, cell := range l[i].Cells {
					if cell < 0 || cell >= power(sort.Width) {
						t.Fatal("value", l[i], "of", n)
					}
				}
			}
		})
	}
}

// The widest words that there are, which a state cannot be.
func TestP45WidestWords(t *testing.T) {
	m := read(t, "0 state 8 x\n1 join 0 0\n2 zext 0 8\n3 sext 0 8\n4 const 16 65535\n5 mul 1 1\n6 sdiv 3 4\n7 not 2\n8 slice 1 15 8\n")
	checkAll(t, m, values(200), nil, values(200, 51400, 200, 65480, 65535, 51400*51400%65536, 56, 65335, 200))
	checkAll(t, m, values(255), nil, values(255, 65535, 255, 65535, 65535, 1, 1, 65280, 255))
	checkAll(t, m, values(0), nil, values(0, 0, 0, 0, 65535, 0, 0, 65535, 0))
}

// arrayText has an array, an index, a word and a choice, and all that can be made of them.
const arrayText = "0 state 2:2 mem\n1 input 2 at\n2 input 2 word\n3 input 1 go\n" +
	"4 read 0 1\n5 put 0 1 2\n6 read 5 1\n7 eq 0 5\n8 if 3 0 5\n9 if 3 5 0\n10 not 1\n11 read 5 10\n12 read 0 10\n13 eq 8 9\n14 eq 5 5\n15 put 5 10 4\n"

func TestP44Arrays(t *testing.T) {
	m := read(t, arrayText)
	eachMoment(m, func(s []impl.Value, in []impl.Value) {
		mem, at, word, chosen := s[0].Cells, in[0].Cells[0], in[1].Cells[0], in[2].Cells[0]
		put := slices.Clone(mem)
		put[at] = word
		both := slices.Clone(put)
		both[3-at] = mem[at]
		same := flag(mem[at] == word)
		choices := [][]int{put, mem}
		checkAll(t, m, s, in, []impl.Value{
			cells(mem...), cells(at), cells(word), cells(chosen),
			cells(mem[at]), cells(put...), cells(word), cells(same),
			cells(choices[chosen]...), cells(choices[1-chosen]...),
			cells(3 - at), cells(mem[3-at]), cells(mem[3-at]), cells(same), cells(1), cells(both...),
		})
	})
}

// The first and the last cell, told by constants, of arrays of two and of four cells.
func TestP44FirstAndLastCell(t *testing.T) {
	m := read(t, "0 state 1:2 two\n1 input 2:1 four\n2 const 1 0\n3 const 1 1\n4 const 2 0\n5 const 2 3\n6 const 2 2\n"+
		"7 read 0 2\n8 read 0 3\n9 read 1 4\n10 read 1 5\n11 put 0 2 6\n12 put 0 3 6\n13 put 1 4 3\n14 put 1 5 3\n")
	s, in := []impl.Value{cells(1, 3)}, []impl.Value{cells(1, 0, 0, 0)}
	checkAll(t, m, s, in, append(append([]impl.Value{s[0], in[0]}, values(0, 1, 0, 3, 2, 1, 3, 1, 0)...),
		cells(2, 3), cells(1, 2), cells(1, 0, 0, 0), cells(1, 0, 0, 1)))
	s, in = []impl.Value{cells(0, 2)}, []impl.Value{cells(0, 1, 1, 1)}
	checkAll(t, m, s, in, append(append([]impl.Value{s[0], in[0]}, values(0, 1, 0, 3, 2, 0, 2, 0, 1)...),
		cells(2, 2), cells(0, 2), cells(1, 1, 1, 1), cells(0, 1, 1, 1)))
}

// Arrays are equal if all cells are; one that differs is enough, wherever it is.
func TestP44EqualArrays(t *testing.T) {
	m := read(t, "0 state 2:1 a\n1 state 2:1 b\n2 eq 0 1\n3 eq 1 0\n4 eq 0 0\nbad 2\nhold 2\n")
	equal, alone := 0, 0
	eachValues(m, impl.OpState, func(s []impl.Value) {
		differ := 0
		for i := range 4 {
			differ += flag(s[0].Cells[i] != s[1].Cells[i])
		}
		same := flag(differ == 0)
		equal, alone = equal+same, alone+flag(differ == 1)
		checkAll(t, m, s, nil, []impl.Value{s[0], s[1], cells(same), cells(same), cells(1)})
		if impl.EvalHolds(m, s, nil) != (same == 1) || impl.EvalBad(m, s, nil) != same-1 {
			t.Fatal("equal or not", s)
		}
	})
	wantInt(t, equal, 16, "equal arrays")
	wantInt(t, alone, 64, "arrays that differ in one cell alone")
	wide := read(t, "0 state 1:4 a\n1 input 1:2 b\n2 const 1 1\n3 const 4 15\n4 put 0 2 3\n5 eq 0 4\n")
	checkAll(t, wide, []impl.Value{cells(7, 15)}, []impl.Value{cells(3, 0)},
		[]impl.Value{cells(7, 15), cells(3, 0), cells(1), cells(15), cells(7, 15), cells(1)})
}

// Four bits, each of them bad or to hold, in another order than they stand in, some there twice.
func TestP44BadsAndHolds(t *testing.T) {
	for _, order := range [][]int{nil, {0}, {2, 1, 0}, {3, 3, 1, 0}, {0, 1, 2, 3}, {1, 0, 1, 3}} {
		bads := read(t, "0 input 1 a\n1 state 1 b\n2 input 1 c\n3 state 1 d\n")
		holds := copyModel(bads)
		bads.Bads, holds.Holds = order, order
		eachMoment(bads, func(s []impl.Value, in []impl.Value) {
			bits := []int{in[0].Cells[0], s[0].Cells[0], in[1].Cells[0], s[1].Cells[0]}
			want, all := -1, true
			for i := len(order) - 1; i >= 0; i-- {
				if bits[order[i]] == 1 {
					want = i
				} else {
					all = false
				}
			}
			wantInt(t, impl.EvalBad(bads, s, in), want, "bads", order, bits)
			wantInt(t, impl.EvalBad(holds, s, in), -1, "no bads")
			if impl.EvalHolds(holds, s, in) != all || !impl.EvalHolds(bads, s, in) {
				t.Fatal("holds", order, bits)
			}
		})
	}
}

func TestP44BadsAndHoldsOfMadeUpModels(t *testing.T) {
	r := rand.New(rand.NewPCG(44, 2))
	several := 0
	for _, m := range someModels() {
		someMoments(m, r, func(s []impl.Value, in []impl.Value) {
			all := wantAll(t, m, s, in)
			var met []int
			for i, at := range m.Bads {
				if all[at].Cells[0] == 1 {
					met = append(met, i)
				}
			}
			several += flag(len(met) > 1)
			wantInt(t, impl.EvalBad(m, s, in), append(met, -1)[0], "bads", m.Bads, all)
			holds := !slices.ContainsFunc(m.Holds, func(at int) bool { return all[at].Cells[0] == 0 })
			if impl.EvalHolds(m, s, in) != holds {
				t.Fatal("holds", m.Holds, all)
			}
		})
	}
	if several < 100 {
		t.Fatal("too few moments with several bads", several)
	}
}

// What begins is bound by constants, or free: y has no init, and mem has a word that stands for each cell.
func TestP44WhereARunBegins(t *testing.T) {
	m := read(t, "0 input 1 i\n1 state 3 x\n2 state 1 y\n3 const 3 6\n4 neg 3\n5 state 2:1 mem\n6 const 1 0\n7 not 6\n"+
		"init 5 7\ninit 1 4\nnext 2 0\nnext 1 3\nbad 7\nhold 6\n")
	begins := 0
	eachValues(m, impl.OpState, func(s []impl.Value) {
		want := s[0].Cells[0] == 2 && slices.Equal(s[2].Cells, []int{1, 1, 1, 1})
		if impl.InitFits(m, s) != want {
			t.Fatal("begins", s, "want", want)
		}
		begins += flag(want)
	})
	wantInt(t, begins, 2, "states in which a run may begin")
}

// Of models that are made up: what is bound must be as it is told, and all else may be anything.
func TestP44WhereMadeUpRunsBegin(t *testing.T) {
	r := rand.New(rand.NewPCG(44, 3))
	free, held, arraysBound := 0, 0, 0
	for _, m := range someModels() {
		someMoments(m, r, func(s []impl.Value, in []impl.Value) {
			all := wantAll(t, m, s, in)
			first := bound(m, m.Inits, all, anyWord(r))
			if !impl.InitFits(m, first) {
				t.Fatal("does not begin", first, m)
			}
			eachOtherCell(m, first, func(at int, other []impl.Value) {
				held += flag(isBound(m.Inits, at))
				free += flag(!isBound(m.Inits, at))
				arraysBound += flag(isBound(m.Inits, at) && m.Nodes[at].Sort.Index > 0)
				if impl.InitFits(m, other) == isBound(m.Inits, at) {
					t.Fatal("begins", other, "as", first, at, m)
				}
			})
		})
	}
	if free < 100 || held < 100 || arraysBound < 100 {
		t.Fatal("too few states were tried", free, held, arraysBound)
	}
}

// x is bound by what goes on from it, mem by an array; y is free. What must hold, and what a run begins with, is not asked.
func TestP44WhatMayFollow(t *testing.T) {
	m := read(t, "0 state 1 y\n1 state 2 x\n2 state 1:2 mem\n3 input 1 at\n4 input 1 go\n5 zext 4 1\n6 add 1 5\n7 put 2 3 1\n8 const 1 0\n"+
		"9 const 2 3\ninit 1 9\ninit 0 8\nnext 2 7\nnext 1 6\nhold 8\nbad 4\n")
	steps := 0
	eachMoment(m, func(s []impl.Value, in []impl.Value) {
		next := (s[1].Cells[0] + in[1].Cells[0]) % 4
		mem := slices.Clone(s[2].Cells)
		mem[in[0].Cells[0]] = s[1].Cells[0]
		for y := range 2 {
			after := []impl.Value{cells(y), cells(next), cells(mem...)}
			if !impl.StepFits(m, s, in, after) {
				t.Fatal("does not follow", s, in, after)
			}
			eachOtherCell(m, after, func(at int, other []impl.Value) {
				if impl.StepFits(m, s, in, other) != (at == 0) {
					t.Fatal("follows", s, in, other)
				}
			})
			steps++
		}
	})
	wantInt(t, steps, 2*128*4, "steps")
}

func TestP44WhatMayFollowInMadeUpModels(t *testing.T) {
	r := rand.New(rand.NewPCG(44, 4))
	free, held := 0, 0
	for _, m := range someModels() {
		someMoments(m, r, func(s []impl.Value, in []impl.Value) {
			after := bound(m, m.Nexts, wantAll(t, m, s, in), anyWord(r))
			if !impl.StepFits(m, s, in, after) {
				t.Fatal("does not follow", s, in, after, m)
			}
			eachOtherCell(m, after, func(at int, other []impl.Value) {
				held += flag(isBound(m.Nexts, at))
				free += flag(!isBound(m.Nexts, at))
				if impl.StepFits(m, s, in, other) == isBound(m.Nexts, at) {
					t.Fatal("follows", s, in, other, at, m)
				}
			})
		})
	}
	if free < 100 || held < 100 {
		t.Fatal("too few steps were tried", free, held)
	}
}

// States that nobody binds may have any value, at the beginning and behind each step.
func TestP44StatesThatNobodyBinds(t *testing.T) {
	m := read(t, "0 state 2 x\n1 state 2:1 mem\n2 input 1 i\n")
	eachMoment(m, func(s []impl.Value, in []impl.Value) {
		if !impl.InitFits(m, s) {
			t.Fatal("does not begin", s)
		}
		for _, after := range [][]impl.Value{{cells(0), cells(0, 0, 0, 0)}, {cells(3), cells(1, 1, 1, 1)}, {cells(2), cells(1, 0, 0, 1)}} {
			if !impl.StepFits(m, s, in, after) {
				t.Fatal("does not follow", s, in, after)
			}
		}
	})
}

// Models without states, without inputs, without both, and without anything.
func TestP44ModelsWithout(t *testing.T) {
	for _, c := range []struct {
		text   string
		s, in  []impl.Value
		counts int
	}{
		{"", nil, nil, 0},
		{"0 const 1 1\n1 not 0\nbad 1\nbad 0\nhold 0\n", nil, nil, 2},
		{"0 state 2 x\n1 const 1 1\nbad 1\n", values(3), nil, 2},
		{"0 input 2 x\n1 const 1 1\nbad 1\n", nil, values(3), 2},
	} {
		m := read(t, c.text)
		for _, none := range [][]impl.Value{nil, {}} {
			s, in := append(none, c.s...), append(none, c.in...)
			if !impl.StateFits(m, s) || !impl.InputFits(m, in) || !impl.InitFits(m, s) || !impl.StepFits(m, s, in, s) || !impl.EvalHolds(m, s, in) {
				t.Fatal("does not fit", c.text, s, in)
			}
			checkAll(t, m, s, in, wantAll(t, m, s, in))
			wantInt(t, len(impl.EvalAll(m, s, in)), c.counts, "values", c.text)
			// Of their bads the last one is met alone.
			wantInt(t, impl.EvalBad(m, s, in), len(m.Bads)-1, "bad", c.text)
		}
	}
}

// Answers are new memory, no two lists of one share any, and nothing is written into an argument or behind its end.
func TestP44MemoryIsKeptApart(t *testing.T) {
	m := read(t, arrayText+"16 const 1 1\n17 if 16 0 5\n18 if 16 5 0\n19 zext 3 0\n")
	kept := copyModel(m)
	for _, chosen := range []int{0, 1, 1} {
		s, in := []impl.Value{cells(3, 1, 0, 2)}, values(2, 1, chosen)
		want := wantAll(t, m, s, in)
		roomyState, roomyInput := roomy(s), roomy(in)
		got := impl.EvalAll(m, roomyState, roomyInput)
		if !sameValues(got, want) {
			t.Fatal("values", got, want)
		}
		wantApart(t, got)
		impl.EvalBad(m, roomyState, roomyInput)
		impl.EvalHolds(m, roomyState, roomyInput)
		impl.InitFits(m, roomyState)
		impl.StepFits(m, roomyState, roomyInput, roomyState)
		impl.StateCode(m, roomyState)
		impl.InputCode(m, roomyInput)
		wantUntouched(t, roomyState, s)
		wantUntouched(t, roomyInput, in)
	}
	// Two states that are one list in memory are two values.
	shared := cells(1, 2)
	two := read(t, "0 state 1:2 a\n1 state 1:2 b\n2 const 1 0\n3 const 2 3\n4 put 0 2 3\n5 eq 0 1\n")
	checkAll(t, two, []impl.Value{shared, shared}, nil, []impl.Value{cells(1, 2), cells(1, 2), cells(0), cells(3), cells(3, 2), cells(1)})
	wantApart(t, impl.EvalAll(two, []impl.Value{shared, shared}, nil))
	if !slices.Equal(shared.Cells, []int{1, 2}) || !sameModel(m, kept) {
		t.Fatal("an argument was written into", shared)
	}
}

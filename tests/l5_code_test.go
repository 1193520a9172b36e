package tests

import (
	"math/rand/v2"
	"testing"

	"loop.example/leadline/impl"
)

// P22: states and inputs are numbers.

// wantNumber is the number of values for the nodes of a kind: all their bits, one behind another, lowest first.
func wantNumber(m impl.Model, kind int, l []impl.Value) int {
	var bits []int
	for i, at := range placesOf(m, kind) {
		for _, cell := range l[i].Cells {
			bits = append(bits, bitsOf(m.Nodes[at].Sort.Width, cell)...)
		}
	}
	return bitsWord(bits)
}

// bitCount is how many bits all nodes of a kind have.
func bitCount(m impl.Model, kind int) int {
	n := 0
	for _, at := range placesOf(m, kind) {
		n += power(m.Nodes[at].Sort.Index) * m.Nodes[at].Sort.Width
	}
	return n
}

// coder is both functions of chapter 5 for the nodes of a kind.
type coder struct {
	kind int
	code func(m impl.Model, l []impl.Value) (int, bool)
	of   func(m impl.Model, code int) ([]impl.Value, bool)
}

func coders() []coder {
	return []coder{{impl.OpState, impl.StateCode, impl.StateOf}, {impl.OpInput, impl.InputCode, impl.InputOf}}
}

// checkNumber holds both functions to a number and its values.
func checkNumber(t *testing.T, m impl.Model, c coder, number int, l []impl.Value) {
	t.Helper()
	if code, ok := c.code(m, l); code != number || !ok {
		t.Fatal("the number of", l, "is", code, ok, "want", number)
	}
	if back, ok := c.of(m, number); !sameValues(back, l) || !ok {
		t.Fatal("the values of", number, "are", back, ok, "want", l)
	}
}

func TestP22NumbersByHand(t *testing.T) {
	state, input := coders()[0], coders()[1]
	m := read(t, "0 input 2 i\n1 state 3 x\n2 state 1:2 mem\n3 input 1:1 two\n4 state 1 y\n5 const 4 9\n6 input 1 j\n")
	for number, s := range map[int][]impl.Value{
		0:       {cells(0), cells(0, 0), cells(0)},
		1:       {cells(1), cells(0, 0), cells(0)},
		4:       {cells(4), cells(0, 0), cells(0)},
		8:       {cells(0), cells(1, 0), cells(0)},
		16:      {cells(0), cells(2, 0), cells(0)},
		32:      {cells(0), cells(0, 1), cells(0)},
		64:      {cells(0), cells(0, 2), cells(0)},
		128:     {cells(0), cells(0, 0), cells(1)},
		0b10110: {cells(6), cells(2, 0), cells(0)},
		0xD5:    {cells(5), cells(2, 2), cells(1)},
		255:     {cells(7), cells(3, 3), cells(1)},
	} {
		checkNumber(t, m, state, number, s)
	}
	for number, in := range map[int][]impl.Value{
		0:  {cells(0), cells(0, 0), cells(0)},
		2:  {cells(2), cells(0, 0), cells(0)},
		4:  {cells(0), cells(1, 0), cells(0)},
		8:  {cells(0), cells(0, 1), cells(0)},
		16: {cells(0), cells(0, 0), cells(1)},
		31: {cells(3), cells(1, 1), cells(1)},
	} {
		checkNumber(t, m, input, number, in)
	}
	four := read(t, "0 state 2:2 mem\n1 input 2:1 bits\n")
	checkNumber(t, four, state, 0b11100100, []impl.Value{cells(0, 1, 2, 3)})
	checkNumber(t, four, state, 0b00011011, []impl.Value{cells(3, 2, 1, 0)})
	checkNumber(t, four, input, 0b1101, []impl.Value{cells(1, 0, 1, 1)})
}

// Of a model each number is that of its values, and all values have one.
func TestP22AllNumbers(t *testing.T) {
	for _, m := range someModels()[:60] {
		for _, c := range coders() {
			number := 0
			eachValues(m, c.kind, func(l []impl.Value) {
				// The first cell changes fastest, so numbers count up.
				wantInt(t, wantNumber(m, c.kind, l), number, "number of", l)
				checkNumber(t, m, c, number, l)
				number++
			})
			wantInt(t, number, power(bitCount(m, c.kind)), "numbers of kind", c.kind)
		}
	}
}

func TestP22MadeUpModels(t *testing.T) {
	r := rand.New(rand.NewPCG(22, 1))
	for _, m := range someModels() {
		states, inputs := impl.ModelBits(m)
		for i, c := range coders() {
			n := []int{states, inputs}[i]
			checkNumber(t, m, c, 0, filled(m, c.kind, least))
			checkNumber(t, m, c, power(n)-1, filled(m, c.kind, greatest))
			for range 4 {
				l := filled(m, c.kind, anyWord(r))
				checkNumber(t, m, c, wantNumber(m, c.kind, l), l)
			}
		}
	}
}

func TestP22ModelsWithout(t *testing.T) {
	for _, text := range []string{"", "0 const 3 5\n", "0 state 2 x\n", "0 input 2 x\n"} {
		m := read(t, text)
		for _, c := range coders() {
			if len(placesOf(m, c.kind)) > 0 {
				checkNumber(t, m, c, 3, values(3))
				continue
			}
			checkNumber(t, m, c, 0, nil)
			checkNumber(t, m, c, 0, []impl.Value{})
			wantNoValues(t, m, c, 1)
			wantNoValues(t, m, c, -1)
		}
	}
}

// What holds, begins or follows is not asked of numbers.
func TestP22NumbersOfWhatIsNotReached(t *testing.T) {
	m := read(t, "0 state 2 x\n1 const 2 1\n2 input 1 i\n3 const 1 0\ninit 0 1\nnext 0 1\nhold 3\nbad 2\n")
	for number := range 4 {
		checkNumber(t, m, coders()[0], number, values(number))
		checkNumber(t, m, coders()[1], number/2, values(number/2))
	}
}

func TestP22MemoryIsKeptApart(t *testing.T) {
	m := read(t, "0 state 1:2 a\n1 state 1:1 b\n2 input 2:1 i\n3 state 2 c\n4 input 1 j\n")
	for range 2 {
		for i, c := range coders() {
			l, ok := c.of(m, []int{0b10_01_1101, 0b1_0110}[i])
			want := [][]impl.Value{{cells(1, 3), cells(1, 0), cells(2)}, {cells(0, 1, 1, 0), cells(1)}}[i]
			if !ok || !sameValues(l, want) {
				t.Fatal("values", l, ok, want)
			}
			wantApart(t, l)
		}
	}
}

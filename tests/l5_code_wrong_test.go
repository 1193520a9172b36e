package tests

import (
	"math"
	"testing"

	"loop.example/leadline/impl"
)

// wantNoValues holds a function to what it tells of a number that is none.
func wantNoValues(t *testing.T, m impl.Model, c coder, number int) {
	t.Helper()
	if l, ok := c.of(m, number); len(l) != 0 || ok {
		t.Fatal("values", l, ok, "of the number", number, "of kind", c.kind, m)
	}
}

// wantNoNumber holds a function to what it tells of values that do not fit.
func wantNoNumber(t *testing.T, m impl.Model, c coder, l []impl.Value) {
	t.Helper()
	if code, ok := c.code(m, l); code != 0 || ok {
		t.Fatal("the number", code, ok, "of", l, "of kind", c.kind, m)
	}
}

// farNumbers are no numbers of any state or input.
func farNumbers() []int {
	return []int{-1, -2, -128, -256, 256, 257, 511, 512, 1 << 16, 1 << 31, 1 << 32, 1<<32 + 1, 1 << 62, math.MaxInt, math.MaxInt - 255, math.MinInt, math.MinInt + 1}
}

func TestP22NoNumbers(t *testing.T) {
	for _, m := range someModels()[:100] {
		for _, c := range coders() {
			n := bitCount(m, c.kind)
			for _, number := range []int{power(n), power(n) + 1, 2*power(n) - 1, 2 * power(n), -1, -power(n), 1 - 2*power(n)} {
				wantNoValues(t, m, c, number)
			}
			for _, number := range farNumbers() {
				wantNoValues(t, m, c, number)
			}
		}
	}
}

// The bits of states do not serve for inputs, nor those of inputs for states.
func TestP22BitsOfTheOtherKind(t *testing.T) {
	m := read(t, "0 state 2 x\n1 input 4 i\n")
	state, input := coders()[0], coders()[1]
	wantNoValues(t, m, state, 4)
	wantNoValues(t, m, state, 15)
	checkNumber(t, m, input, 15, values(15))
	m = read(t, "0 state 8 x\n1 input 1 i\n")
	wantNoValues(t, m, input, 2)
	checkNumber(t, m, state, 255, values(255))
}

func TestP22NoValues(t *testing.T) {
	m := freeModel()
	for _, c := range coders() {
		for _, rule := range []func(w int) int{least, greatest} {
			for _, wrong := range spoiltValues(m, c.kind, filled(m, c.kind, rule)) {
				wantNoNumber(t, m, c, wrong)
			}
		}
	}
	wantNoNumber(t, impl.Model{}, coders()[0], values(0))
	wantNoNumber(t, impl.Model{}, coders()[1], []impl.Value{cells()})
}

func TestP22ModelsThatAreNotOk(t *testing.T) {
	base := counterModel()
	for _, f := range flaws() {
		m := copyModel(base)
		f.make(&m)
		for _, c := range coders() {
			for number := range 4 {
				wantNoValues(t, m, c, number)
			}
			for _, number := range farNumbers() {
				wantNoValues(t, m, c, number)
			}
			wantNoNumber(t, m, c, filled(base, c.kind, least))
			wantNoNumber(t, m, c, filled(base, c.kind, greatest))
			wantNoNumber(t, m, c, nil)
		}
	}
}

// A state or an input of more bits than there may be has no numbers, small ones neither.
func TestP22ModelsThatAreTooBig(t *testing.T) {
	for _, sorts := range [][2]impl.Sort{{words(9), words(1)}, {words(1), words(6)}, {arrays(2, 16), words(1)}, {words(1), arrays(2, 16)}} {
		m := impl.Model{Nodes: []impl.Node{
			{Kind: impl.OpState, Sort: sorts[0], Name: "x"},
			{Kind: impl.OpInput, Sort: sorts[1], Name: "i"},
		}}
		wantCode(t, m, impl.ModelTooBig, sorts)
		for _, c := range coders() {
			wantNoValues(t, m, c, 0)
			wantNoValues(t, m, c, 1)
			wantNoNumber(t, m, c, filled(m, c.kind, least))
		}
	}
}

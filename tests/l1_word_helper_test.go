package tests

import (
	"math"
	"slices"
	"testing"

	"loop.example/leadline/impl"
)

// allWidths are the widths that there are.
func allWidths() []int {
	var l []int
	for w := range impl.WordMax {
		l = append(l, w+1)
	}
	return l
}

// noWidths are numbers that are no widths.
func noWidths() []int {
	return []int{0, -1, impl.WordMax + 1, 63, 64, 65, math.MaxInt, math.MinInt}
}

// noWords are numbers that are no words of a width.
func noWords(w int) []int {
	return []int{-1, -power(w - 1), power(w), power(w) + 1, math.MaxInt, math.MinInt}
}

// power is 2^n, by doubling, so that the tests do not lean on shifts.
func power(n int) int {
	p := 1
	for range n {
		p *= 2
	}
	return p
}

// someWords are all words of a small width, and of a greater one those at the edges and some between.
func someWords(w int) []int {
	var l []int
	if w <= 4 {
		for v := range power(w) {
			l = append(l, v)
		}
		return l
	}
	half := power(w - 1)
	l = append(l, 0, 1, 2, 3, w-1, w, w+1, 2*w, half-1, half, half+1, 2*half-2, 2*half-1)
	l = append(l, 0x5a5a%(2*half), 0xaaaa%(2*half), 0x1235%(2*half))
	slices.Sort(l)
	l = slices.DeleteFunc(slices.Compact(l), func(v int) bool { return v >= 2*half })
	return l
}

// eachPair goes through pairs of words of every width.
func eachPair(f func(w int, a int, b int)) {
	for _, w := range allWidths() {
		l := someWords(w)
		for _, a := range l {
			for _, b := range l {
				f(w, a, b)
			}
		}
	}
}

// signed is a word as a number with a sign.
func signed(w int, a int) int {
	if a >= power(w-1) {
		return a - power(w)
	}
	return a
}

// wrapped is a number as a word, by a rest that is never below 0.
func wrapped(w int, n int) int {
	return (n%power(w) + power(w)) % power(w)
}

// bitsOf are the bits of a word, the lowest first.
func bitsOf(w int, a int) []int {
	var l []int
	for range w {
		l = append(l, a%2)
		a /= 2
	}
	return l
}

// bitsWord is the word with these bits.
func bitsWord(l []int) int {
	a := 0
	for i, bit := range l {
		a += bit * power(i)
	}
	return a
}

func flag(yes bool) int {
	if yes {
		return 1
	}
	return 0
}

// one is what WordOne makes of a word, which must be a word of the width that is told for the kind.
func one(t *testing.T, kind int, w int, a int) int {
	t.Helper()
	width := w
	if kind >= impl.OpAny {
		width = 1
	}
	v, n, ok := impl.WordOne(kind, w, a)
	checkWord(t, []int{kind, w, a}, v, n, ok, width)
	return v
}

// two is what WordTwo makes of two words, which must be a word of the width that is told for the kind.
func two(t *testing.T, kind int, w int, a int, b int) int {
	t.Helper()
	width := w
	if kind >= impl.OpEq {
		width = 1
	}
	v, n, ok := impl.WordTwo(kind, w, a, b)
	checkWord(t, []int{kind, w, a, b}, v, n, ok, width)
	return v
}

func checkWord(t *testing.T, args []int, v int, n int, ok bool, width int) {
	t.Helper()
	if !ok || n != width || v < 0 || v >= power(width) {
		t.Fatal("no word of the width", width, "from", args, "but", v, n, ok)
	}
}

func wantInt(t *testing.T, got int, want int, what ...any) {
	t.Helper()
	if got != want {
		t.Fatal(append([]any{"got", got, "want", want, "of"}, what...)...)
	}
}

func wantRefused(t *testing.T, v int, n int, ok bool, what ...any) {
	t.Helper()
	if v != 0 || n != 0 || ok {
		t.Fatal(append([]any{"not refused:", v, n, ok, "of"}, what...)...)
	}
}

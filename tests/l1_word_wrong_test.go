package tests

import (
	"math"
	"testing"

	"loop.example/leadline/impl"
)

// wrongPairs are a width and a number that is no word of it.
func wrongPairs() [][2]int {
	var l [][2]int
	for _, w := range noWidths() {
		l = append(l, [2]int{w, 0}, [2]int{w, 1}, [2]int{w, -1}, [2]int{w, math.MaxInt}, [2]int{w, math.MinInt})
	}
	for _, w := range allWidths() {
		for _, v := range noWords(w) {
			l = append(l, [2]int{w, v})
		}
	}
	return l
}

func TestP40NoWords(t *testing.T) {
	for _, p := range wrongPairs() {
		if impl.WordOk(p[0], p[1]) {
			t.Fatal("no word", p)
		}
		wantInt(t, impl.WordSigned(p[0], p[1]), 0, "signed", p)
	}
}

func TestP36FromWithoutWidth(t *testing.T) {
	for _, w := range noWidths() {
		for _, n := range []int{0, 1, -1, 65535, math.MaxInt, math.MinInt} {
			wantInt(t, impl.WordFrom(w, n), 0, "from", w, n)
		}
	}
}

func TestP36FromFarNumbers(t *testing.T) {
	for _, w := range allWidths() {
		wantInt(t, impl.WordFrom(w, math.MaxInt), power(w)-1, "the greatest int", w)
		wantInt(t, impl.WordFrom(w, math.MinInt), 0, "the least int", w)
		wantInt(t, impl.WordFrom(w, math.MinInt+1), 1, "one more than the least int", w)
	}
}

func TestP36ReckoningWithNoWords(t *testing.T) {
	for _, p := range wrongPairs() {
		w, v := p[0], p[1]
		for kind := impl.OpNot; kind <= impl.OpOdd; kind++ {
			n, width, ok := impl.WordOne(kind, w, v)
			wantRefused(t, n, width, ok, "one", kind, w, v)
		}
		for kind := impl.OpAnd; kind <= impl.OpMover; kind++ {
			n, width, ok := impl.WordTwo(kind, w, v, 0)
			wantRefused(t, n, width, ok, "first of two", kind, w, v)
			n, width, ok = impl.WordTwo(kind, w, 0, v)
			wantRefused(t, n, width, ok, "second of two", kind, w, v)
		}
	}
}

func TestP36OtherKinds(t *testing.T) {
	far := []int{0, -1, math.MinInt, math.MaxInt, impl.OpPut + 1, 64 + impl.OpAdd, 256 + impl.OpNot}
	for _, w := range allWidths() {
		for _, kind := range far {
			checkNoKind(t, kind, w, true, true)
		}
		for kind := impl.OpNot; kind <= impl.OpPut; kind++ {
			checkNoKind(t, kind, w, kind > impl.OpOdd, kind < impl.OpAnd || kind > impl.OpMover)
		}
	}
}

func checkNoKind(t *testing.T, kind int, w int, notOne bool, notTwo bool) {
	t.Helper()
	v, n, ok := impl.WordOne(kind, w, 1)
	if notOne {
		wantRefused(t, v, n, ok, "one", kind, w)
	} else if !ok {
		t.Fatal("a kind of one word", kind, w)
	}
	v, n, ok = impl.WordTwo(kind, w, 1, 1)
	if notTwo {
		wantRefused(t, v, n, ok, "two", kind, w)
	} else if !ok {
		t.Fatal("a kind of two words", kind, w)
	}
}

func TestP39JoinRefused(t *testing.T) {
	for _, p := range wrongPairs() {
		v, n, ok := impl.WordJoin(p[0], p[1], 1, 0)
		wantRefused(t, v, n, ok, "join above", p)
		v, n, ok = impl.WordJoin(1, 0, p[0], p[1])
		wantRefused(t, v, n, ok, "join below", p)
	}
	for _, w := range allWidths() {
		for _, u := range allWidths() {
			v, n, ok := impl.WordJoin(w, 1, u, 1)
			if w+u > impl.WordMax {
				wantRefused(t, v, n, ok, "join too wide", w, u)
			} else if !ok {
				t.Fatal("join", w, u)
			}
		}
	}
}

func TestP39SliceRefused(t *testing.T) {
	for _, p := range wrongPairs() {
		v, n, ok := impl.WordSlice(p[0], p[1], 0, 0)
		wantRefused(t, v, n, ok, "slice", p)
	}
	far := []int{math.MinInt, math.MaxInt}
	for _, w := range allWidths() {
		a := power(w) - 1
		for _, n := range append(far, -1, w, w+1) {
			v, width, ok := impl.WordSlice(w, a, n, 0)
			wantRefused(t, v, width, ok, "hi", w, n)
			v, width, ok = impl.WordSlice(w, a, w-1, n)
			wantRefused(t, v, width, ok, "lo", w, n)
			v, width, ok = impl.WordSlice(w, a, n, n)
			wantRefused(t, v, width, ok, "both", w, n)
		}
		for hi := range w {
			v, width, ok := impl.WordSlice(w, a, hi, hi+1)
			wantRefused(t, v, width, ok, "lo above hi", w, hi)
		}
	}
}

func TestP39GrowRefused(t *testing.T) {
	for _, signs := range []bool{false, true} {
		for _, p := range wrongPairs() {
			v, n, ok := impl.WordGrow(p[0], p[1], 0, signs)
			wantRefused(t, v, n, ok, "grow", p, signs)
		}
		for _, w := range allWidths() {
			for _, more := range []int{-1, -w, math.MinInt, impl.WordMax - w + 1, impl.WordMax, math.MaxInt} {
				v, n, ok := impl.WordGrow(w, power(w)-1, more, signs)
				wantRefused(t, v, n, ok, "grow by", w, more, signs)
			}
		}
	}
}

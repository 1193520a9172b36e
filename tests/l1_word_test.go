package tests

import (
	"slices"
	"testing"

	"loop.example/leadline/impl"
)

// P36: sums, differences, products and opposites.

func TestP36SumsAndProductsAreThoseOfNumbers(t *testing.T) {
	eachPair(func(w int, a int, b int) {
		wantInt(t, two(t, impl.OpAdd, w, a, b), wrapped(w, a+b), "add", w, a, b)
		wantInt(t, two(t, impl.OpSub, w, a, b), wrapped(w, a-b), "sub", w, a, b)
		wantInt(t, two(t, impl.OpMul, w, a, b), wrapped(w, a*b), "mul", w, a, b)
		wantInt(t, one(t, impl.OpNeg, w, a), wrapped(w, -a), "neg", w, a)
	})
}

func TestP36LawsOfSumsAndProducts(t *testing.T) {
	eachPair(func(w int, a int, b int) {
		sum := two(t, impl.OpAdd, w, a, b)
		wantInt(t, two(t, impl.OpAdd, w, b, a), sum, "order of a sum", w, a, b)
		wantInt(t, two(t, impl.OpMul, w, b, a), two(t, impl.OpMul, w, a, b), "order of a product", w, a, b)
		wantInt(t, two(t, impl.OpSub, w, sum, b), a, "what is added comes off", w, a, b)
		wantInt(t, two(t, impl.OpAdd, w, a, one(t, impl.OpNeg, w, a)), 0, "opposite", w, a)
		wantInt(t, two(t, impl.OpAdd, w, a, one(t, impl.OpNeg, w, b)), two(t, impl.OpSub, w, a, b), "opposite added", w, a, b)
		for _, c := range someWords(w) {
			left := two(t, impl.OpMul, w, c, sum)
			right := two(t, impl.OpAdd, w, two(t, impl.OpMul, w, c, a), two(t, impl.OpMul, w, c, b))
			wantInt(t, left, right, "products over sums", w, a, b, c)
		}
	})
}

func TestP36Wrapped(t *testing.T) {
	wantInt(t, two(t, impl.OpAdd, 1, 1, 1), 0, "1 bit")
	wantInt(t, two(t, impl.OpAdd, 16, 65535, 65535), 65534, "16 bits")
	wantInt(t, two(t, impl.OpSub, 16, 0, 65535), 1, "16 bits")
	wantInt(t, two(t, impl.OpMul, 16, 65535, 65535), 1, "16 bits")
	wantInt(t, two(t, impl.OpMul, 8, 16, 16), 0, "8 bits")
	wantInt(t, one(t, impl.OpNeg, 1, 1), 1, "1 bit")
	wantInt(t, one(t, impl.OpNeg, 16, 0), 0, "16 bits")
	wantInt(t, one(t, impl.OpNeg, 16, 32768), 32768, "the least of 16 bits")
}

// P37: quotients and rests.

func TestP37WithoutSigns(t *testing.T) {
	eachPair(func(w int, a int, b int) {
		q, r := two(t, impl.OpDiv, w, a, b), two(t, impl.OpRem, w, a, b)
		wantInt(t, wrapped(w, q*b+r), a, "quotient times divisor and rest", w, a, b)
		if b == 0 {
			wantInt(t, q, power(w)-1, "by 0", w, a)
			wantInt(t, r, a, "rest by 0", w, a)
			return
		}
		wantInt(t, q*b+r, a, "not beyond", w, a, b)
		if r >= b {
			t.Fatal("rest not less", w, a, b, r)
		}
	})
}

func TestP37WithSigns(t *testing.T) {
	eachPair(func(w int, a int, b int) {
		q, r := two(t, impl.OpSdiv, w, a, b), two(t, impl.OpSrem, w, a, b)
		wantInt(t, wrapped(w, q*b+r), a, "quotient times divisor and rest", w, a, b)
		sa, sb, sr := signed(w, a), signed(w, b), signed(w, r)
		if b == 0 {
			wantInt(t, r, a, "rest by 0", w, a)
			return
		}
		if sa == -power(w-1) && sb == -1 {
			wantInt(t, q, a, "the least by -1", w)
			wantInt(t, r, 0, "rest of the least by -1", w)
			return
		}
		wantInt(t, signed(w, q)*sb+sr, sa, "not beyond", w, a, b)
		if max(sr, -sr) >= max(sb, -sb) {
			t.Fatal("rest not less", w, a, b, r)
		}
		if sa < 0 && sr > 0 || sa >= 0 && sr < 0 {
			t.Fatal("rest of another sign", w, a, b, r)
		}
	})
}

func TestP37WithSignsBy0(t *testing.T) {
	for _, w := range allWidths() {
		for _, a := range someWords(w) {
			want := power(w) - 1
			if signed(w, a) < 0 {
				want = 1
			}
			wantInt(t, two(t, impl.OpSdiv, w, a, 0), want, "by 0", w, a)
		}
	}
}

func TestP37Edges(t *testing.T) {
	wantInt(t, two(t, impl.OpSdiv, 16, 32768, 65535), 32768, "the least by -1")
	wantInt(t, two(t, impl.OpSrem, 16, 32768, 65535), 0, "the least by -1")
	wantInt(t, two(t, impl.OpSdiv, 1, 1, 1), 1, "-1 by -1 in 1 bit")
	wantInt(t, two(t, impl.OpSrem, 1, 1, 1), 0, "-1 by -1 in 1 bit")
	wantInt(t, two(t, impl.OpSdiv, 4, 9, 2), 13, "-7 by 2 is -3")
	wantInt(t, two(t, impl.OpSrem, 4, 9, 2), 15, "-7 by 2 leaves -1")
	wantInt(t, two(t, impl.OpSdiv, 4, 7, 14), 13, "7 by -2 is -3")
	wantInt(t, two(t, impl.OpSrem, 4, 7, 14), 1, "7 by -2 leaves 1")
	wantInt(t, two(t, impl.OpDiv, 16, 65535, 1), 65535, "by 1")
}

// P38: bits, turns and shifts.

func TestP38TurnsComeBack(t *testing.T) {
	eachPair(func(w int, a int, b int) {
		up, down := two(t, impl.OpRol, w, a, b), two(t, impl.OpRor, w, a, b)
		wantInt(t, two(t, impl.OpRor, w, up, b), a, "up and down", w, a, b)
		wantInt(t, two(t, impl.OpRol, w, down, b), a, "down and up", w, a, b)
		l := bitsOf(w, a)
		high := bitsWord(slices.Concat(l[w-b%w:], l[:w-b%w]))
		low := bitsWord(slices.Concat(l[b%w:], l[:b%w]))
		wantInt(t, up, high, "up", w, a, b)
		wantInt(t, down, low, "down", w, a, b)
		wantInt(t, one(t, impl.OpNot, w, one(t, impl.OpNot, w, a)), a, "not", w, a)
		wantInt(t, two(t, impl.OpXor, w, two(t, impl.OpXor, w, a, b), b), a, "xor", w, a, b)
	})
}

func TestP38ShiftingIsDoubling(t *testing.T) {
	eachPair(func(w int, a int, b int) {
		up, down, fill := 0, 0, 0
		if signed(w, a) < 0 {
			fill = power(w) - 1
		}
		if b < w {
			up = wrapped(w, a*power(b))
			down = a / power(b)
			fill = wrapped(w, (signed(w, a)-a%power(b))/power(b))
		}
		wantInt(t, two(t, impl.OpShl, w, a, b), up, "shl", w, a, b)
		wantInt(t, two(t, impl.OpShr, w, a, b), down, "shr", w, a, b)
		wantInt(t, two(t, impl.OpSar, w, a, b), fill, "sar", w, a, b)
	})
	for _, w := range allWidths() {
		for _, a := range someWords(w) {
			wantInt(t, two(t, impl.OpShl, w, a, 1%power(w)), two(t, impl.OpAdd, w, a, a), "doubled", w, a)
		}
	}
}

func TestP38ByTheWidthAndMore(t *testing.T) {
	wantInt(t, two(t, impl.OpShl, 1, 1, 1), 0, "1 bit")
	wantInt(t, two(t, impl.OpShr, 1, 1, 1), 0, "1 bit")
	wantInt(t, two(t, impl.OpSar, 1, 1, 1), 1, "1 bit")
	wantInt(t, two(t, impl.OpRol, 1, 1, 1), 1, "1 bit")
	wantInt(t, two(t, impl.OpRor, 1, 1, 0), 1, "1 bit")
	for _, b := range []int{16, 17, 48, 63, 64, 65, 65535} {
		wantInt(t, two(t, impl.OpShl, 16, 65535, b), 0, "shl", b)
		wantInt(t, two(t, impl.OpShr, 16, 65535, b), 0, "shr", b)
		wantInt(t, two(t, impl.OpSar, 16, 32767, b), 0, "sar", b)
		wantInt(t, two(t, impl.OpSar, 16, 32768, b), 65535, "sar", b)
		wantInt(t, two(t, impl.OpRol, 16, 1, b), power(b%16), "rol", b)
		wantInt(t, two(t, impl.OpRor, 16, 32768, b), power(15-b%16), "ror", b)
	}
	wantInt(t, two(t, impl.OpRol, 3, 5, 7), 3, "a width that is no power of 2")
	wantInt(t, two(t, impl.OpRor, 3, 5, 7), 6, "a width that is no power of 2")
}

func TestP38BitByBit(t *testing.T) {
	eachPair(func(w int, a int, b int) {
		la, lb := bitsOf(w, a), bitsOf(w, b)
		both, some, just := make([]int, w), make([]int, w), make([]int, w)
		for i := range w {
			both[i] = la[i] * lb[i]
			some[i] = max(la[i], lb[i])
			just[i] = (la[i] + lb[i]) % 2
		}
		wantInt(t, two(t, impl.OpAnd, w, a, b), bitsWord(both), "and", w, a, b)
		wantInt(t, two(t, impl.OpOr, w, a, b), bitsWord(some), "or", w, a, b)
		wantInt(t, two(t, impl.OpXor, w, a, b), bitsWord(just), "xor", w, a, b)
	})
}

func TestP38AllBitsOfOneWord(t *testing.T) {
	for _, w := range allWidths() {
		for _, a := range someWords(w) {
			ones := 0
			for _, bit := range bitsOf(w, a) {
				ones += bit
			}
			wantInt(t, one(t, impl.OpNot, w, a), power(w)-1-a, "not", w, a)
			wantInt(t, one(t, impl.OpAny, w, a), flag(ones > 0), "any", w, a)
			wantInt(t, one(t, impl.OpAll, w, a), flag(ones == w), "all", w, a)
			wantInt(t, one(t, impl.OpOdd, w, a), ones%2, "odd", w, a)
		}
	}
}

// P39: joining, cutting and growing.

func TestP39WhatIsJoinedIsCut(t *testing.T) {
	for _, w := range allWidths() {
		for u := 1; w+u <= impl.WordMax; u++ {
			for _, a := range someWords(w) {
				for _, b := range someWords(u) {
					checkJoined(t, w, a, u, b)
				}
			}
		}
	}
}

func checkJoined(t *testing.T, w int, a int, u int, b int) {
	t.Helper()
	v, n, ok := impl.WordJoin(w, a, u, b)
	checkWord(t, []int{w, a, u, b}, v, n, ok, w+u)
	wantInt(t, v, a*power(u)+b, "join", w, a, u, b)
	high, n, ok := impl.WordSlice(w+u, v, w+u-1, u)
	checkWord(t, []int{w, a, u, b}, high, n, ok, w)
	wantInt(t, high, a, "high bits", w, a, u, b)
	low, n, ok := impl.WordSlice(w+u, v, u-1, 0)
	checkWord(t, []int{w, a, u, b}, low, n, ok, u)
	wantInt(t, low, b, "low bits", w, a, u, b)
}

func TestP39Slices(t *testing.T) {
	for _, w := range allWidths() {
		for _, a := range someWords(w) {
			for hi := range w {
				for lo := range hi + 1 {
					v, n, ok := impl.WordSlice(w, a, hi, lo)
					checkWord(t, []int{w, a, hi, lo}, v, n, ok, hi-lo+1)
					wantInt(t, v, bitsWord(bitsOf(w, a)[lo:hi+1]), "slice", w, a, hi, lo)
				}
			}
		}
	}
}

func TestP39WhatGrowsKeepsItsValue(t *testing.T) {
	for _, w := range allWidths() {
		for more := 0; w+more <= impl.WordMax; more++ {
			for _, a := range someWords(w) {
				checkGrown(t, w, a, more)
			}
		}
	}
}

func checkGrown(t *testing.T, w int, a int, more int) {
	t.Helper()
	plain, n, ok := impl.WordGrow(w, a, more, false)
	checkWord(t, []int{w, a, more}, plain, n, ok, w+more)
	wantInt(t, plain, a, "value", w, a, more)
	with, n, ok := impl.WordGrow(w, a, more, true)
	checkWord(t, []int{w, a, more}, with, n, ok, w+more)
	wantInt(t, with, wrapped(w+more, signed(w, a)), "grown with its sign", w, a, more)
	wantInt(t, impl.WordSigned(w+more, with), impl.WordSigned(w, a), "value with its sign", w, a, more)
	for _, v := range []int{plain, with} {
		low, n, ok := impl.WordSlice(w+more, v, w-1, 0)
		checkWord(t, []int{w, a, more}, low, n, ok, w)
		wantInt(t, low, a, "low bits", w, a, more)
	}
}

// P40: what is said of two words.

func TestP40ComparedAsNumbers(t *testing.T) {
	eachPair(func(w int, a int, b int) {
		sa, sb := signed(w, a), signed(w, b)
		wantInt(t, two(t, impl.OpEq, w, a, b), flag(a == b), "eq", w, a, b)
		wantInt(t, two(t, impl.OpLess, w, a, b), flag(a < b), "less", w, a, b)
		wantInt(t, two(t, impl.OpMost, w, a, b), flag(a <= b), "most", w, a, b)
		wantInt(t, two(t, impl.OpSless, w, a, b), flag(sa < sb), "sless", w, a, b)
		wantInt(t, two(t, impl.OpSmost, w, a, b), flag(sa <= sb), "smost", w, a, b)
	})
}

func TestP40WhatGoesBeyondDoes(t *testing.T) {
	eachPair(func(w int, a int, b int) {
		sum := signed(w, a) + signed(w, b)
		over := sum < -power(w-1) || sum > power(w-1)-1
		wantInt(t, two(t, impl.OpCarry, w, a, b), flag(a+b >= power(w)), "carry", w, a, b)
		wantInt(t, two(t, impl.OpMover, w, a, b), flag(a*b >= power(w)), "mover", w, a, b)
		wantInt(t, two(t, impl.OpSover, w, a, b), flag(over), "sover", w, a, b)
	})
}

func TestP40JustAtTheEdge(t *testing.T) {
	wantInt(t, two(t, impl.OpCarry, 16, 65535, 0), 0, "2^w - 1")
	wantInt(t, two(t, impl.OpCarry, 16, 65535, 1), 1, "2^w")
	wantInt(t, two(t, impl.OpMover, 16, 257, 255), 0, "2^w - 1")
	wantInt(t, two(t, impl.OpMover, 16, 256, 256), 1, "2^w")
	wantInt(t, two(t, impl.OpSover, 16, 32766, 1), 0, "the greatest")
	wantInt(t, two(t, impl.OpSover, 16, 32767, 1), 1, "beyond the greatest")
	wantInt(t, two(t, impl.OpSover, 16, 32769, 65535), 0, "the least")
	wantInt(t, two(t, impl.OpSover, 16, 32768, 65535), 1, "below the least")
	wantInt(t, two(t, impl.OpSover, 1, 1, 1), 1, "-2 in 1 bit")
	wantInt(t, two(t, impl.OpSless, 1, 1, 0), 1, "-1 and 0 in 1 bit")
}

func TestP40SignsAndNumbers(t *testing.T) {
	for _, w := range allWidths() {
		for _, a := range someWords(w) {
			if !impl.WordOk(w, a) {
				t.Fatal("a word", w, a)
			}
			wantInt(t, impl.WordSigned(w, a), signed(w, a), "signed", w, a)
			wantInt(t, impl.WordFrom(w, signed(w, a)), a, "from signed", w, a)
			for _, k := range []int{-3, -1, 0, 1, 1 << 40} {
				wantInt(t, impl.WordFrom(w, a+k*power(w)), a, "a multiple more", w, a, k)
			}
		}
	}
}

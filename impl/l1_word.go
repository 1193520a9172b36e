// Package impl: a checker of word-level transition systems.
package impl

// WordMax bounds the width of words.
const WordMax = 16

// Kinds of nodes.
const (
	OpNot   = 1
	OpNeg   = 2
	OpAny   = 3
	OpAll   = 4
	OpOdd   = 5
	OpAnd   = 6
	OpOr    = 7
	OpXor   = 8
	OpAdd   = 9
	OpSub   = 10
	OpMul   = 11
	OpDiv   = 12
	OpRem   = 13
	OpSdiv  = 14
	OpSrem  = 15
	OpShl   = 16
	OpShr   = 17
	OpSar   = 18
	OpRol   = 19
	OpRor   = 20
	OpEq    = 21
	OpLess  = 22
	OpSless = 23
	OpMost  = 24
	OpSmost = 25
	OpCarry = 26
	OpSover = 27
	OpMover = 28
	OpJoin  = 29
	OpSlice = 30
	OpZext  = 31
	OpSext  = 32
	OpIf    = 33
	OpConst = 34
	OpInput = 35
	OpState = 36
	OpRead  = 37
	OpPut   = 38
)

// oneRule is what a kind makes of one word; bit says that this has width 1.
type oneRule struct {
	reckon func(w int, a int) int
	bit    bool
}

// twoRule is what a kind makes of two words; bit says that this has width 1.
type twoRule struct {
	reckon func(w int, a int, b int) int
	bit    bool
}

// WordOk says whether a number is a word of a width.
func WordOk(w int, v int) bool {
	return widthOk(w) && v >= 0 && v <= wordTop(w)
}

// WordSigned is a word as a number with a sign.
func WordSigned(w int, v int) int {
	if !WordOk(w, v) {
		return 0
	}
	if wordSign(w, v) == 1 {
		return v - 1<<w
	}
	return v
}

// WordFrom is a number as a word.
func WordFrom(w int, n int) int {
	if !widthOk(w) {
		return 0
	}
	// An int wraps at a multiple of 2^w, so its low bits are right below 0, too.
	return n & wordTop(w)
}

// WordOne reckons with one word.
func WordOne(kind int, w int, a int) (int, int, bool) {
	if kind < OpNot || kind > OpOdd || !WordOk(w, a) {
		return 0, 0, false
	}
	rule := oneRules()[kind]
	return rule.reckon(w, a), ruleWidth(w, rule.bit), true
}

// WordTwo reckons with two words of one width.
func WordTwo(kind int, w int, a int, b int) (int, int, bool) {
	if kind < OpAnd || kind > OpMover || !WordOk(w, a) || !WordOk(w, b) {
		return 0, 0, false
	}
	rule := twoRules()[kind]
	return rule.reckon(w, a, b), ruleWidth(w, rule.bit), true
}

// WordJoin puts one word above another one.
func WordJoin(w int, a int, u int, b int) (int, int, bool) {
	if !WordOk(w, a) || !WordOk(u, b) || w+u > WordMax {
		return 0, 0, false
	}
	return a<<u | b, w + u, true
}

// WordSlice is some bits of a word.
func WordSlice(w int, a int, hi int, lo int) (int, int, bool) {
	if !WordOk(w, a) || lo < 0 || lo > hi || hi >= w {
		return 0, 0, false
	}
	width := hi - lo + 1
	return WordFrom(width, a>>lo), width, true
}

// WordGrow makes a word wider.
func WordGrow(w int, a int, more int, signed bool) (int, int, bool) {
	// w + more is not asked for directly, as it may go beyond an int.
	if !WordOk(w, a) || more < 0 || more > WordMax-w {
		return 0, 0, false
	}
	if signed {
		return WordFrom(w+more, WordSigned(w, a)), w + more, true
	}
	return a, w + more, true
}

func oneRules() [OpOdd + 1]oneRule {
	return [OpOdd + 1]oneRule{
		OpNot: {reckon: wordNot},
		OpNeg: {reckon: wordNeg},
		OpAny: {reckon: wordAny, bit: true},
		OpAll: {reckon: wordAll, bit: true},
		OpOdd: {reckon: wordOdd, bit: true},
	}
}

func twoRules() [OpMover + 1]twoRule {
	return [OpMover + 1]twoRule{
		OpAnd:   {reckon: wordAnd},
		OpOr:    {reckon: wordOr},
		OpXor:   {reckon: wordXor},
		OpAdd:   {reckon: wordAdd},
		OpSub:   {reckon: wordSub},
		OpMul:   {reckon: wordMul},
		OpDiv:   {reckon: wordDiv},
		OpRem:   {reckon: wordRem},
		OpSdiv:  {reckon: wordSdiv},
		OpSrem:  {reckon: wordSrem},
		OpShl:   {reckon: wordShl},
		OpShr:   {reckon: wordShr},
		OpSar:   {reckon: wordSar},
		OpRol:   {reckon: wordRol},
		OpRor:   {reckon: wordRor},
		OpEq:    {reckon: wordEq, bit: true},
		OpLess:  {reckon: wordLess, bit: true},
		OpSless: {reckon: wordSless, bit: true},
		OpMost:  {reckon: wordMost, bit: true},
		OpSmost: {reckon: wordSmost, bit: true},
		OpCarry: {reckon: wordCarry, bit: true},
		OpSover: {reckon: wordSover, bit: true},
		OpMover: {reckon: wordMover, bit: true},
	}
}

func ruleWidth(w int, bit bool) int {
	if bit {
		return 1
	}
	return w
}

func widthOk(w int) bool { return w >= 1 && w <= WordMax }

// wordTop is the greatest word of a width, all its bits being 1.
func wordTop(w int) int { return 1<<w - 1 }

func wordBit(a int, i int) int { return a >> i & 1 }

func wordSign(w int, a int) int { return wordBit(a, w-1) }

func wordFlag(yes bool) int {
	if yes {
		return 1
	}
	return 0
}

func wordNot(w int, a int) int { return wordTop(w) - a }

func wordNeg(w int, a int) int { return WordFrom(w, -a) }

func wordAny(w int, a int) int { return wordFlag(a != 0) }

func wordAll(w int, a int) int { return wordFlag(a == wordTop(w)) }

func wordOdd(w int, a int) int {
	odd := 0
	for i := range w {
		odd ^= wordBit(a, i)
	}
	return odd
}

func wordAnd(w int, a int, b int) int { return a & b }

func wordOr(w int, a int, b int) int { return a | b }

func wordXor(w int, a int, b int) int { return a ^ b }

func wordAdd(w int, a int, b int) int { return WordFrom(w, a+b) }

func wordSub(w int, a int, b int) int { return WordFrom(w, a-b) }

func wordMul(w int, a int, b int) int { return WordFrom(w, a*b) }

func wordDiv(w int, a int, b int) int {
	if b == 0 {
		return wordTop(w)
	}
	return a / b
}

func wordRem(w int, a int, b int) int {
	if b == 0 {
		return a
	}
	return a % b
}

func wordSdiv(w int, a int, b int) int {
	if b == 0 && wordSign(w, a) == 1 {
		return 1
	}
	if b == 0 {
		return wordTop(w)
	}
	// The least by -1 is the one quotient that is no word with a sign: it wraps.
	return WordFrom(w, WordSigned(w, a)/WordSigned(w, b))
}

func wordSrem(w int, a int, b int) int {
	if b == 0 {
		return a
	}
	return WordFrom(w, WordSigned(w, a)%WordSigned(w, b))
}

// The shifts need no case for b of w and more: Go shifts by any count that is
// not below 0, and fills as the document asks.

func wordShl(w int, a int, b int) int { return WordFrom(w, a<<b) }

func wordShr(w int, a int, b int) int { return a >> b }

func wordSar(w int, a int, b int) int { return WordFrom(w, WordSigned(w, a)>>b) }

func wordRol(w int, a int, b int) int {
	turned := 0
	for i := range w {
		turned |= wordBit(a, i) << ((i + b) % w)
	}
	return turned
}

// wordRor goes on round the other way, as turning down by b is turning up by w - b.
func wordRor(w int, a int, b int) int { return wordRol(w, a, w-b%w) }

func wordEq(w int, a int, b int) int { return wordFlag(a == b) }

func wordLess(w int, a int, b int) int { return wordFlag(a < b) }

func wordSless(w int, a int, b int) int { return wordFlag(WordSigned(w, a) < WordSigned(w, b)) }

func wordMost(w int, a int, b int) int { return wordFlag(a <= b) }

func wordSmost(w int, a int, b int) int { return wordFlag(WordSigned(w, a) <= WordSigned(w, b)) }

func wordCarry(w int, a int, b int) int { return wordFlag(a+b > wordTop(w)) }

func wordSover(w int, a int, b int) int {
	sum := WordSigned(w, a) + WordSigned(w, b)
	return wordFlag(sum != WordSigned(w, WordFrom(w, sum)))
}

func wordMover(w int, a int, b int) int { return wordFlag(a*b > wordTop(w)) }

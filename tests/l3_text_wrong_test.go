package tests

import (
	"math/rand/v2"
	"strings"
	"testing"

	"loop.example/leadline/impl"
)

func TestP21NoLines(t *testing.T) {
	for _, line := range []string{
		" ", "  ", "0", "0 ", "x", "state", "worse 1", "0 worse 1", "0 state", "0 input", "0 const", "0 not", "0 slice", "0 put",
		" # late", "\t", "\r", "\x00", "\xff\xfe", "é", "0 State 3 x", "0 STATE 3 x", "0 Not 0", "0 opnot 0", "0 OpState 3 x",
		"0 state 3", "0 state 3 x y", "0 input 3", "0 input 3 x 1", "0 const 3", "0 const 3 1 1", "0 state x 3", "0 0 0 0", "0  3 x",
		"init", "init 0", "init 0 0 0", "next", "next 0", "next 0 0 0", "bad", "bad 0 0", "hold", "hold 0 0",
		"Init 0 0", "Bad 0", "0 init 0 0", "0 bad 0", "0 hold 0", "init x 0", "init 0 x", "next -1 0", "bad x", "hold -1", "hold +1",
		"bads 0", "then", "state 3 x", "-1 state 3 x", "1 state 3 x", "00 state 3 x", "x state 3 x", "+0 state 3 x", "0x0 state 3 x",
	} {
		wantLineFault(t, line, impl.TextBadLine)
	}
}

func TestP21Blanks(t *testing.T) {
	for _, line := range []string{
		"0 state 3 x ", "0 state 3  x", "0 state  3 x", "0  state 3 x", " 0 state 3 x", "0 state  x", "0\tstate 3 x",
		"0 const 3 1 ", "0 const 3 ", "0 const  1", "0 const 3  1", "init 0 0 ", "init 0  0", "init  0", "init 0 ", " init 0 0", "bad 0 ", "bad  0", "bad ", "hold ", "hold\t0",
		"0 const 3 1\r", "init 0 0\r", "0 state 3\xa0x",
	} {
		wantLineFault(t, line, impl.TextBadLine)
	}
	wantTextFault(t, "0 const 1 1\n1 not 0 \n", 2, impl.TextBadLine)
	wantTextFault(t, "0 const 1 1\n1 not \n", 2, impl.TextBadLine)
	// An empty word in the place of a name is a word, but no name.
	wantLineFault(t, "0 state 3 ", impl.ModelBadNode)
	wantLineFault(t, "0 input 3 ", impl.ModelBadNode)
}

// Each kind with a word less and a word more than it has.
func TestP21FewerOrMoreWords(t *testing.T) {
	l := rightNodes()
	lines := strings.SplitAfter(impl.ModelText(impl.Model{Nodes: l}), "\n")
	for i := range l {
		ahead, line := strings.Join(lines[:i], ""), strings.TrimSuffix(lines[i], "\n")
		read(t, ahead+line)
		wantTextFault(t, ahead+line+" 0", i+1, impl.TextBadLine)
		wantTextFault(t, ahead+line[:strings.LastIndex(line, " ")], i+1, impl.TextBadLine)
		wantTextFault(t, ahead+"0"+line, i+1, impl.TextBadLine)
		pieces := strings.Split(line, " ")
		for at := range pieces {
			for _, word := range []string{"", "-1", "01", "x1", "1x", "1000000", "1.0", "٣"} {
				if at == len(pieces)-1 && l[i].Name != "" {
					continue
				}
				wrong := strings.Join(pieces[:at], " ") + " " + word + " " + strings.Join(pieces[at+1:], " ")
				wantTextFault(t, ahead+strings.Trim(wrong, " ")+"\n", i+1, impl.TextBadLine)
			}
		}
	}
}

func TestP21Digits(t *testing.T) {
	wantLineFault(t, "0 const 3 999999", impl.ModelBadNode)
	wantLineFault(t, "0 const 3 1000000", impl.TextBadLine)
	wantLineFault(t, "0 const 3 0000001", impl.TextBadLine)
	wantLineFault(t, "0 const 999999 1", impl.ModelBadNode)
	wantLineFault(t, "0 const 1000000 1", impl.TextBadLine)
	wantLineFault(t, "0 state 999999:999999 x", impl.ModelBadNode)
	wantLineFault(t, "0 state 1000000:1 x", impl.TextBadLine)
	wantLineFault(t, "0 state 1:1000000 x", impl.TextBadLine)
	wantLineFault(t, "0 const 3 99999999999999999999", impl.TextBadLine)
	wantLineFault(t, "0 const 3 18446744073709551617", impl.TextBadLine)
	wantLineFault(t, "init 1000000 0", impl.TextBadLine)
	wantLineFault(t, "bad 1000000", impl.TextBadLine)
	wantTextFault(t, "init 999999 0\n", 0, impl.ModelBadBind)
	wantTextFault(t, "hold 999999\n", 0, impl.ModelBadProp)
	read(t, "0 const 16 65535\n1 const 16 0\n2 const 16 10000")
	wantLineFault(t, "0 const 16 65536", impl.ModelBadNode)
	for _, word := range []string{"", "00", "03", "-0", "-1", "+1", "1_0", "0x1", "1e1", "1.", " 1", "٣", "a", "1a", ":", "/"} {
		wantLineFault(t, "0 const 3 "+word, impl.TextBadLine)
		wantLineFault(t, "0 const "+word+" 1", impl.TextBadLine)
		wantLineFault(t, "bad "+word, impl.TextBadLine)
		wantLineFault(t, "next 0 "+word, impl.TextBadLine)
	}
}

func TestP21SortsInTexts(t *testing.T) {
	for _, word := range []string{"0:3", "00:3", "01:3", "1:03", ":3", "2:", ":", "2:3:4", "2::3", "2;3", "-1:3", "2:-3", "2: 3", "x:3", "2:x"} {
		wantLineFault(t, "0 state "+word+" x", impl.TextBadLine)
		wantLineFault(t, "0 const "+word+" 1", impl.TextBadLine)
	}
	// These are written as sorts are, but are none.
	for _, word := range []string{"0", "17", "1:0", "1:17", "3:1", "999:1"} {
		wantLineFault(t, "0 state "+word+" x", impl.ModelBadNode)
		wantLineFault(t, "0 input "+word+" x", impl.ModelBadNode)
		wantLineFault(t, "0 const "+word+" 0", impl.ModelBadNode)
	}
	wantLineFault(t, "0 const 1:1 0", impl.ModelBadNode)
	wantTextFault(t, "0 state 16 x\n", 0, impl.ModelTooBig)
	wantTextFault(t, "0 state 2:16 x\n", 0, impl.ModelTooBig)
}

func TestP21BadNodes(t *testing.T) {
	wantLineFault(t, "0 not 0", impl.ModelBadNode)
	wantLineFault(t, "0 not 1", impl.ModelBadNode)
	wantLineFault(t, "0 if 0 0 0", impl.ModelBadNode)
	for _, name := range []string{"X", "0", "1x", "x#", "x-y", "x:y", "x\ty", "\r", "é", "x\x00", "abcdefghi", "#"} {
		wantLineFault(t, "0 state 3 "+name, impl.ModelBadNode)
		wantLineFault(t, "0 input 3 "+name, impl.ModelBadNode)
	}
	ahead := "0 state 3 x\n1 input 1 go\n2 state 1:2 mem\n"
	for _, line := range []string{
		"3 not 2", "3 not 3", "3 not 999999", "3 add 0 1", "3 add 2 2", "3 eq 0 2", "3 read 0 1", "3 read 2 0", "3 put 2 1 1", "3 put 2 0 0",
		"3 if 0 0 0", "3 if 1 0 1", "3 slice 0 3 0", "3 slice 0 0 1", "3 slice 2 0 0", "3 zext 0 14", "3 sext 2 0", "3 join 0 2", "3 join 2 2",
	} {
		wantTextFault(t, ahead+line, 4, impl.ModelBadNode)
	}
}

// The first line with a fault is told, and of a line that it is none ahead of what is wrong with its node.
func TestP21TheFirstFaultIsTold(t *testing.T) {
	wantTextFault(t, "0 const 3 8\nworse\n", 1, impl.ModelBadNode)
	wantTextFault(t, "worse\n0 const 3 8\n", 1, impl.TextBadLine)
	wantTextFault(t, "bad 7\nbad 7\nbad 7\nbad 7\nbad 7\n0 const 3 8\n", 6, impl.ModelBadNode)
	wantTextFault(t, "1 const 3 8\n", 1, impl.TextBadLine)
	wantTextFault(t, "0 not 7 7\n", 1, impl.TextBadLine)
	wantTextFault(t, "0 state 17 X Y\n", 1, impl.TextBadLine)
	wantTextFault(t, "0 state 17 X\n", 1, impl.ModelBadNode)
	// A node that is not taken does not count.
	wantTextFault(t, "0 state 3 X\n1 state 3 x\n", 1, impl.ModelBadNode)
	wantTextFault(t, "0 state 3 x\n# 1 const 3 0\n2 const 3 0\n", 3, impl.TextBadLine)
	wantTextFault(t, "0 state 3 x\n0 const 3 0\n", 2, impl.TextBadLine)
}

func TestP21NoTextOfNoModel(t *testing.T) {
	for _, f := range flaws() {
		m := counterModel()
		f.make(&m)
		if text := impl.ModelText(m); text != "" {
			t.Fatalf("a text %q, with the flaw %s", text, f.what)
		}
	}
}

func TestP21TextsOfAnyBytes(t *testing.T) {
	r := rand.New(rand.NewPCG(21, 4))
	patterns := linePatterns()
	some := []byte("0123 :#\nxstate")
	for range 20000 {
		b := make([]byte, r.IntN(24))
		for i := range b {
			b[i] = byte(r.IntN(256))
			if r.IntN(3) > 0 {
				b[i] = some[r.IntN(len(some))]
			}
		}
		m, f := impl.ModelRead(string(b))
		if want := wantFault(string(b), patterns); f != want {
			t.Fatalf("%q: fault %v, want %v", b, f, want)
		}
		checkRead(t, string(b), m, f)
	}
}

package asm_test

import (
	"fmt"
	"math"
	"math/big"
	"math/rand/v2"
	"regexp"
	"slices"
	"strconv"
	"strings"
	"testing"

	"tipstaff/api"
	"tipstaff/asm"
	"tipstaff/insn"
	"tipstaff/shape"
)

var (
	exit   = api.Insn{Op: 0x95}
	mov    = api.Insn{Op: 0xb7, Imm: 7}
	second = api.Insn{}
)

func one(l ...api.Insn) []api.Insn { return l }

// known are lines with their instructions, written out by hand.
var known = []struct {
	line string
	l    []api.Insn
}{
	{"add r0 1", one(api.Insn{Op: 0x07, Imm: 1})},
	{"add32 r9 r10", one(api.Insn{Op: 0x0c, Dst: 9, Src: 10})},
	{"sub r1 r2", one(api.Insn{Op: 0x1f, Dst: 1, Src: 2})},
	{"sub32 r1 -1", one(api.Insn{Op: 0x14, Dst: 1, Imm: -1})},
	{"mul r1 2147483647", one(api.Insn{Op: 0x27, Dst: 1, Imm: math.MaxInt32})},
	{"mul32 r1 -2147483648", one(api.Insn{Op: 0x24, Dst: 1, Imm: math.MinInt32})},
	{"div r1 r0", one(api.Insn{Op: 0x3f, Dst: 1})},
	{"div32 r1 1", one(api.Insn{Op: 0x34, Dst: 1, Imm: 1})},
	{"or r1 0", one(api.Insn{Op: 0x47, Dst: 1})},
	{"or32 r1 r0", one(api.Insn{Op: 0x4c, Dst: 1})},
	{"and r1 0", one(api.Insn{Op: 0x57, Dst: 1})},
	{"and32 r1 r3", one(api.Insn{Op: 0x5c, Dst: 1, Src: 3})},
	{"lsh r1 63", one(api.Insn{Op: 0x67, Dst: 1, Imm: 63})},
	{"lsh32 r1 31", one(api.Insn{Op: 0x64, Dst: 1, Imm: 31})},
	{"rsh r1 r4", one(api.Insn{Op: 0x7f, Dst: 1, Src: 4})},
	{"rsh32 r1 0", one(api.Insn{Op: 0x74, Dst: 1})},
	{"neg r8", one(api.Insn{Op: 0x87, Dst: 8})},
	{"neg32 r0", one(api.Insn{Op: 0x84})},
	{"mod r1 -5", one(api.Insn{Op: 0x97, Dst: 1, Imm: -5})},
	{"mod32 r1 r5", one(api.Insn{Op: 0x9c, Dst: 1, Src: 5})},
	{"xor r1 10", one(api.Insn{Op: 0xa7, Dst: 1, Imm: 10})},
	{"xor32 r1 r6", one(api.Insn{Op: 0xac, Dst: 1, Src: 6})},
	{"mov r0 7", one(api.Insn{Op: 0xb7, Imm: 7})},
	{"mov r2 r10", one(api.Insn{Op: 0xbf, Dst: 2, Src: 10})},
	{"mov32 r2 -10", one(api.Insn{Op: 0xb4, Dst: 2, Imm: -10})},
	{"arsh r6 63", one(api.Insn{Op: 0xc7, Dst: 6, Imm: 63})},
	{"arsh32 r6 r7", one(api.Insn{Op: 0xcc, Dst: 6, Src: 7})},

	{"jeq r1 0 +0", one(api.Insn{Op: 0x15, Dst: 1})},
	{"jeq32 r10 r0 +1", one(api.Insn{Op: 0x1e, Dst: 10, Off: 1})},
	{"jgt r1 r2 -1", one(api.Insn{Op: 0x2d, Dst: 1, Src: 2, Off: -1})},
	{"jgt32 r1 5 +32767", one(api.Insn{Op: 0x26, Dst: 1, Off: math.MaxInt16, Imm: 5})},
	{"jge r1 -2147483648 -32768", one(api.Insn{Op: 0x35, Dst: 1, Off: math.MinInt16, Imm: math.MinInt32})},
	{"jge32 r1 r2 +10", one(api.Insn{Op: 0x3e, Dst: 1, Src: 2, Off: 10})},
	{"jset r6 r2 +0", one(api.Insn{Op: 0x4d, Dst: 6, Src: 2})},
	{"jset32 r10 -2147483648 -32768", one(api.Insn{Op: 0x46, Dst: 10, Off: math.MinInt16, Imm: math.MinInt32})},
	{"jne r1 2 +3", one(api.Insn{Op: 0x55, Dst: 1, Off: 3, Imm: 2})},
	{"jne32 r1 r10 +3", one(api.Insn{Op: 0x5e, Dst: 1, Src: 10, Off: 3})},
	{"jsgt r1 2 +3", one(api.Insn{Op: 0x65, Dst: 1, Off: 3, Imm: 2})},
	{"jsgt32 r1 2 +3", one(api.Insn{Op: 0x66, Dst: 1, Off: 3, Imm: 2})},
	{"jsge r1 r2 +3", one(api.Insn{Op: 0x7d, Dst: 1, Src: 2, Off: 3})},
	{"jsge32 r1 2 +3", one(api.Insn{Op: 0x76, Dst: 1, Off: 3, Imm: 2})},
	{"jlt r1 2 +3", one(api.Insn{Op: 0xa5, Dst: 1, Off: 3, Imm: 2})},
	{"jlt32 r1 r2 +3", one(api.Insn{Op: 0xae, Dst: 1, Src: 2, Off: 3})},
	{"jle r1 2 +3", one(api.Insn{Op: 0xb5, Dst: 1, Off: 3, Imm: 2})},
	{"jle32 r1 2 +3", one(api.Insn{Op: 0xb6, Dst: 1, Off: 3, Imm: 2})},
	{"jslt r1 r2 +3", one(api.Insn{Op: 0xcd, Dst: 1, Src: 2, Off: 3})},
	{"jslt32 r1 2 +3", one(api.Insn{Op: 0xc6, Dst: 1, Off: 3, Imm: 2})},
	{"jsle r1 2 +3", one(api.Insn{Op: 0xd5, Dst: 1, Off: 3, Imm: 2})},
	{"jsle32 r6 -1 +1", one(api.Insn{Op: 0xd6, Dst: 6, Off: 1, Imm: -1})},

	{"ja +0", one(api.Insn{Op: 0x05})},
	{"ja -1", one(api.Insn{Op: 0x05, Off: -1})},
	{"ja -32768", one(api.Insn{Op: 0x05, Off: math.MinInt16})},
	{"exit", one(exit)},
	{"call 1", one(api.Insn{Op: 0x85, Imm: 1})},
	{"call 89", one(api.Insn{Op: 0x85, Imm: 89})},

	{"ld1 r6 r1 +3", one(api.Insn{Op: 0x71, Dst: 6, Src: 1, Off: 3})},
	{"ld2 r9 r10 -2", one(api.Insn{Op: 0x69, Dst: 9, Src: 10, Off: -2})},
	{"ld4 r0 r0 +0", one(api.Insn{Op: 0x61})},
	{"ld8 r0 r1 +32767", one(api.Insn{Op: 0x79, Src: 1, Off: math.MaxInt16})},
	{"st1 r10 -1 r0", one(api.Insn{Op: 0x73, Dst: 10, Off: -1})},
	{"st2 r10 -2 0", one(api.Insn{Op: 0x6a, Dst: 10, Off: -2})},
	{"st4 r10 -12 r6", one(api.Insn{Op: 0x63, Dst: 10, Src: 6, Off: -12})},
	{"st8 r10 -8 -5", one(api.Insn{Op: 0x7a, Dst: 10, Off: -8, Imm: -5})},
	{"st8 r0 +8 r10", one(api.Insn{Op: 0x7b, Src: 10, Off: 8})},
	{"aadd4 r10 -4 r6", one(api.Insn{Op: 0xc3, Dst: 10, Src: 6, Off: -4})},
	{"aadd8 r10 -8 r6", one(api.Insn{Op: 0xdb, Dst: 10, Src: 6, Off: -8})},
	{"aor4 r0 +0 r0", one(api.Insn{Op: 0xc3, Imm: 64})},
	{"aand8 r0 +1 r10", one(api.Insn{Op: 0xdb, Src: 10, Off: 1, Imm: 80})},
	{"axor8 r0 +1 r1", one(api.Insn{Op: 0xdb, Src: 1, Off: 1, Imm: 160})},

	{"wide r0 0", one(api.Insn{Op: 0x18}, second)},
	{"wide r9 4294967295", one(api.Insn{Op: 0x18, Dst: 9, Imm: -1}, second)},
	{"wide r9 4294967296", one(api.Insn{Op: 0x18, Dst: 9}, api.Insn{Imm: 1})},
	{"wide r9 9223372036854775808", one(api.Insn{Op: 0x18, Dst: 9}, api.Insn{Imm: math.MinInt32})},
	{"wide r9 18446744073709551615", one(api.Insn{Op: 0x18, Dst: 9, Imm: -1}, api.Insn{Imm: -1})},
	{"wide r1 81985529216486895", one(api.Insn{Op: 0x18, Dst: 1, Imm: -1985229329}, api.Insn{Imm: 0x01234567})},
	{"map r0 0", one(api.Insn{Op: 0x18, Src: 1}, second)},
	{"map r9 3", one(api.Insn{Op: 0x18, Dst: 9, Src: 1, Imm: 3}, second)},
}

// mustParse holds Parse's answer against the instructions that are wanted.
func mustParse(t *testing.T, text string, want []api.Insn) {
	t.Helper()
	if l, at, err := asm.Parse(text); !slices.Equal(l, want) || at != 0 || err != api.OK {
		t.Errorf("Parse(%q): %+v, %d, %d, not %+v", text, l, at, err, want)
	}
}

// mustText holds Text's answer against the text that is wanted.
func mustText(t *testing.T, l []api.Insn, want string) {
	t.Helper()
	if text, err := asm.Text(l); text != want || err != api.OK {
		t.Errorf("Text(%+v): %q, %d, not %q", l, text, err, want)
	}
}

// refuses holds Parse's answer against the line that is wrong.
func refuses(t *testing.T, text string, line int, err api.Errno) {
	t.Helper()
	if l, at, got := asm.Parse(text); len(l) != 0 || at != line || got != err {
		t.Errorf("Parse(%.60q): %+v, %d, %d, not %d, %d", text, l, at, got, line, err)
	}
}

// refused: Text must not tell a text of these.
func refused(t *testing.T, name string, l []api.Insn) {
	t.Helper()
	if text, err := asm.Text(l); text != "" || err != api.EINVAL {
		t.Errorf("Text of %s: %q, %d", name, text, err)
	}
}

// P23.1: the chapter's example.
func TestExample(t *testing.T) {
	mustParse(t, "mov r0 7\nexit\n", one(mov, exit))
	mustText(t, one(mov, exit), "mov r0 7\nexit\n")
}

// P23.1: each kind's words, alone and all behind one another.
func TestKnownLines(t *testing.T) {
	var text string
	var l []api.Insn
	for _, k := range known {
		mustParse(t, k.line+"\n", k.l)
		mustText(t, k.l, k.line+"\n")
		text, l = text+k.line+"\n", append(l, k.l...)
	}
	mustParse(t, text, l)
	mustText(t, l, text)
}

// P23.1: a known line with anything more, less or otherwise in it is none.
func TestKnownLinesSpoilt(t *testing.T) {
	for _, k := range known {
		for i := range len(k.line) + 1 {
			for _, more := range []string{" ", "\t", "\r", "\x00", "_", "é", "\xff", "z", "#"} {
				refuses(t, k.line[:i]+more+k.line[i:]+"\n", 1, api.EINVAL)
			}
		}
		refuses(t, strings.ToUpper(k.line)+"\n", 1, api.EINVAL)
		refuses(t, k.line+" r1\n", 1, api.EINVAL)
		refuses(t, k.line+" 0\n", 1, api.EINVAL)
		refuses(t, k.line+" +0\n", 1, api.EINVAL)
		if words := strings.Fields(k.line); len(words) > 1 {
			refuses(t, strings.Join(words[:len(words)-1], " ")+"\n", 1, api.EINVAL)
			refuses(t, strings.Join(words[1:], " ")+"\n", 1, api.EINVAL)
			refuses(t, words[0]+"\n", 1, api.EINVAL)
		}
	}
}

// P23.1: wrong lines, wherever they stand.
func TestWrongLines(t *testing.T) {
	for _, line := range []string{
		"", " ", "nop", "r0", "0", "7", "32", "8", "+0", "add", "second", "second 0", "bad", "mov r0 7;",
		// names
		"add64 r0 1", "add3 r0 1", "add032 r0 1", "add3232 r0 1", "add8 r0 1", "Add r0 1", "addr0 1", "movr0 7",
		"ja32 +0", "exit32", "exit0", "call32 1", "jmp +0", "jeq8 r0 0 +0", "j r0 0 +0", "arsh64 r1 1", "ash r1 1",
		"ld r0 r1 +0", "ld0 r0 r1 +0", "ld3 r0 r1 +0", "ld16 r0 r1 +0", "ld08 r0 r1 +0", "ld32 r0 r1 +0",
		"ld256 r0 r1 +0", "ld264 r0 r1 +0", "ld18446744073709551620 r0 r1 +0",
		"st r0 +0 1", "st0 r0 +0 1", "st5 r0 +0 1", "st01 r0 +0 1",
		"aadd r0 +0 r0", "aadd1 r0 +0 r0", "aadd2 r0 +0 r0", "aadd32 r0 +0 r0", "asub8 r0 +0 r0", "axor16 r0 +0 r0",
		"wide8 r0 0", "map8 r0 0", "wide32 r0 0", "map32 r0 0",
		// registers
		"mov r11 1", "mov r0 r11", "mov r10 1", "mov r10 r1", "neg r10", "mov r00 1", "mov r0 r01", "mov r 1", "mov R0 1",
		"mov r-1 1", "mov r+1 1", "mov rr1 1", "mov 0 1", "mov r256 1", "mov r0 r256", "mov r0 r", "mov r0 r1r", "mov x0 1",
		"mov r0 r18446744073709551616", "ld8 r10 r1 +0", "ld8 r0 1 +0", "ld8 r0 r11 +0", "wide r10 0", "map r10 0",
		"aadd8 r11 +0 r0", "aadd8 r0 +0 r11", "aadd8 r0 +0 1", "jeq r11 0 +0", "jeq r0 r11 +0", "st8 r11 +0 0", "st8 r0 +0 r11",
		// numbers
		"mov r0 +1", "mov r0 -0", "mov r0 01", "mov r0 00", "mov r0 -01", "mov r0 --1", "mov r0 -", "mov r0 +", "mov r0 0x1",
		"mov r0 1e3", "mov r0 1_0", "mov r0 1.0", "mov r0 2147483648", "mov r0 -2147483649", "mov r0 4294967296",
		"mov r0 4294967303", "mov r0 18446744073709551616", "mov r0 -9223372036854775809", "mov r0 ", "mov r0 ٣",
		"wide r0 -1", "wide r0 +1", "wide r0 01", "wide r0 -0", "wide r0 18446744073709551616", "wide r0 r1",
		"wide r0 36893488147419103232", "wide r0 0x10",
		// offsets
		"ja 0", "ja 1", "ja -0", "ja +00", "ja +01", "ja -01", "ja ++1", "ja +-1", "ja --1", "ja -+1", "ja +", "ja -", "ja r1",
		"ja +32768", "ja -32769", "ja +65536", "ja +18446744073709551616", "ld8 r0 r1 3", "ld8 r0 r1 -0", "ld8 r0 r1 r2",
		"jeq r0 0 0", "jeq r0 0 r1", "jeq r0 +0 +0", "jeq r0 0 +32768", "st8 r0 0 0", "st8 r0 +0 +0", "aadd8 r0 0 r0",
		// orders and counts
		"mov 7 r0", "mov r0", "mov r0 7 8", "mov r0  7", " mov r0 7", "mov r0 7 ", "mov\tr0 7", "mov r0 7\r", "exit 1", "exit ",
		"neg r0 r1", "neg r0 0", "neg", "ja", "call", "call r1", "call +1", "jeq r0 +0 0", "jeq r0 0", "ld8 r0 +0 r1", "ld8 +0 r0 r1",
		"st8 r0 r1 +0", "st8 r0 1 +0", "aadd8 r0 r1 +0", "map 0 r0", "wide 0 r0", "map r0 0 0", "wide r0 0 0", "call 1 ", "call 1 2",
		// forms
		"div r0 0", "div32 r0 0", "mod r0 0", "mod32 r0 0", "lsh r0 64", "lsh r0 -1", "lsh32 r0 32", "rsh r0 64", "rsh32 r0 32",
		"arsh r0 64", "arsh32 r0 32", "arsh32 r0 63", "call 0", "call 4", "call 6", "call 86", "call 90", "call -1", "call 257",
		"map r0 4", "map r0 -1", "map r0 4294967296", "map r0 r1", "map r0 +1",
	} {
		refuses(t, line+"\n", 1, api.EINVAL)
		refuses(t, "wide r0 1\nexit\n"+line+"\nmov r0 7\n", 3, api.EINVAL)
		refuses(t, "exit\n"+line+"\n"+line+"\n", 2, api.EINVAL)
	}
}

// P23.1: each line has its line end, the last one too; a text of no line has no instruction.
func TestLineEnds(t *testing.T) {
	mustParse(t, "", nil)
	for i, text := range []string{
		"exit", "mov r0 7\nexit", "mov r0 7\nexit\nwide r0 1", "exit\nexit\nexit\n ", "\n", "exit\n\n", "exit\nexit\n\nexit\n",
		"exit\rexit\r", "exit\r\nexit\r\n", "exit\x00", "exit\v", "exit\u2028exit\n", "exit exit\n", "nop", "r",
	} {
		want := []int{1, 2, 3, 4, 1, 2, 3, 1, 1, 1, 1, 1, 1, 1, 1}[i]
		refuses(t, text, want, api.EINVAL)
	}
}

// P23.1: as many instructions as the limit allows, and one more; a Wide has two; a wrong line is told ahead of the count.
func TestCounts(t *testing.T) {
	movs := func(n int) string { return strings.Repeat("mov r0 7\n", n) }
	wides := func(n int) string { return strings.Repeat("wide r9 18446744073709551615\n", n) }
	for _, text := range []string{movs(256), wides(128), wides(127) + movs(2), movs(254) + wides(1), movs(1), movs(255)} {
		l, at, err := asm.Parse(text)
		if at != 0 || err != api.OK {
			t.Errorf("%.40q..: %d, %d", text, at, err)
		}
		mustText(t, l, text)
	}
	for _, text := range []string{movs(257), wides(129), wides(128) + movs(1), movs(255) + wides(1), movs(1) + wides(128), movs(20000)} {
		refuses(t, text, 0, api.E2BIG)
	}
	refuses(t, movs(256)+"nop\n", 257, api.EINVAL)
	refuses(t, movs(256)+"exit", 257, api.EINVAL)
	refuses(t, movs(300)+"nop\n"+movs(300)+"nop\n", 301, api.EINVAL)
	refuses(t, movs(20000)+"exit", 20001, api.EINVAL)
	refuses(t, wides(200)+"map r0 4\n", 201, api.EINVAL)

	refused(t, "257 instructions", slices.Repeat(one(mov), 257))
	refused(t, "129 wides", slices.Repeat(one(api.Insn{Op: 0x18}, second), 129))
	refused(t, "many", slices.Repeat(one(exit), 100000))
}

// P23.1: long lines and words are wrong as others are.
func TestLongLines(t *testing.T) {
	const many = 1 << 22
	for _, line := range []string{
		strings.Repeat(" ", many), strings.Repeat("7", many), "mov r0 " + strings.Repeat("0", many) + "7",
		"exit" + strings.Repeat(" ", many), "mov r0 7" + strings.Repeat(" 7", many), "ld" + strings.Repeat("8", many) + " r0 r1 +0",
		strings.Repeat("exit", many), "mov r" + strings.Repeat("0", many) + " 7",
	} {
		refuses(t, "exit\n"+line+"\nexit\n", 2, api.EINVAL)
		refuses(t, line, 1, api.EINVAL)
	}
}

// P23.1: jumps may go anywhere, and the last one may be any.
func TestNoMatterWhereItGoes(t *testing.T) {
	for _, off := range []int16{0, 1, -1, 2, 3, -3, 255, 256, math.MaxInt16, math.MinInt16} {
		for _, x := range []api.Insn{{Op: 0x05, Off: off}, {Op: 0x15, Off: off}, {Op: 0xde, Off: off}} {
			for _, l := range [][]api.Insn{{x}, {x, {Op: 0x18}, second, x}, {mov, x, mov}, {x, exit}} {
				text, err := asm.Text(l)
				if err != api.OK {
					t.Errorf("Text(%+v): %d", l, err)
				}
				mustParse(t, text, l)
			}
		}
	}
	mustText(t, slices.Repeat(one(api.Insn{Op: 0x05}), 256), strings.Repeat("ja +0\n", 256))
	mustText(t, slices.Repeat(one(mov), 256), strings.Repeat("mov r0 7\n", 256))
	mustText(t, one(exit, api.Insn{Op: 0x18}, second), "exit\nwide r0 0\n")
}

// P23.1: instructions that aren't in shape have no text.
func TestTextOfWrongInstructions(t *testing.T) {
	ofMap := api.Insn{Op: 0x18, Src: 1}
	refused(t, "nil", nil)
	refused(t, "nothing", []api.Insn{})
	refused(t, "a second", one(second))
	refused(t, "a second at the beginning", one(second, exit))
	refused(t, "a second behind mov", one(mov, second, exit))
	refused(t, "a second behind a second", one(api.Insn{Op: 0x18}, second, second, exit))
	refused(t, "a wide at the end", one(exit, api.Insn{Op: 0x18}))
	refused(t, "a map at the end", one(exit, ofMap))
	refused(t, "a wide before a wide", one(api.Insn{Op: 0x18}, api.Insn{Op: 0x18}, second, exit))
	refused(t, "a wide before exit", one(api.Insn{Op: 0x18}, exit))
	refused(t, "a wide before a jump", one(api.Insn{Op: 0x18}, api.Insn{Op: 0x05}, exit))
	refused(t, "a map with more in its second", one(ofMap, api.Insn{Imm: 1}, exit))
	refused(t, "map 4", one(api.Insn{Op: 0x18, Src: 1, Imm: 4}, second, exit))
	refused(t, "map -1", one(api.Insn{Op: 0x18, Src: 1, Imm: -1}, second, exit))
	refused(t, "a wide with Src 2", one(api.Insn{Op: 0x18, Src: 2}, second, exit))
	refused(t, "a second with Dst", one(api.Insn{Op: 0x18}, api.Insn{Dst: 1}, exit))
	refused(t, "a second with Src", one(api.Insn{Op: 0x18}, api.Insn{Src: 1}, exit))
	refused(t, "a second with Off", one(api.Insn{Op: 0x18}, api.Insn{Off: 1}, exit))
	refused(t, "what is wrong at the end", one(mov, exit, api.Insn{Op: 0x95, Imm: 1}))
	refused(t, "a jump with Src beside Imm", one(api.Insn{Op: 0x15, Src: 1}, exit))
	refused(t, "always with Dst", one(api.Insn{Op: 0x05, Dst: 1, Off: -1}, exit))
	refused(t, "an atomic of another number", one(api.Insn{Op: 0xc3, Imm: 1}, exit))
	refused(t, "what is Bad", one(api.Insn{Op: 0x01}, exit))
}

// words is an instruction's line, if it is in form: told of its bytes by the chapters' tables.
func words(x, behind api.Insn) string {
	pick := func(all string, n int) string { return strings.Fields(all)[n] }
	alu := "add sub mul div or and lsh rsh neg mod xor mov arsh"
	jumps := "? jeq jgt jge jset jne jsgt jsge ? ? jlt jle jslt jsle"
	size := pick("4 2 1 8", int(x.Op>>3&3))
	dst, src := fmt.Sprintf("r%d", x.Dst), fmt.Sprintf("r%d", x.Src)
	value := fmt.Sprint(x.Imm)
	if x.Op&8 != 0 {
		value = src
	}
	switch {
	case x.Op == 0x05:
		return fmt.Sprintf("ja %+d", x.Off)
	case x.Op == 0x85:
		return fmt.Sprintf("call %d", x.Imm)
	case x.Op == 0x95:
		return "exit"
	case x.Op == 0x18 && x.Src == 1:
		return fmt.Sprintf("map %s %d", dst, x.Imm)
	case x.Op == 0x18:
		number := new(big.Int).Lsh(big.NewInt(int64(uint32(behind.Imm))), 32)
		return fmt.Sprintf("wide %s %d", dst, number.Add(number, big.NewInt(int64(uint32(x.Imm)))))
	}
	switch x.Op & 7 {
	case 1:
		return fmt.Sprintf("ld%s %s %s %+d", size, dst, src, x.Off)
	case 2:
		return fmt.Sprintf("st%s %s %+d %d", size, dst, x.Off, x.Imm)
	case 3:
		if x.Op>>5 == 3 {
			return fmt.Sprintf("st%s %s %+d %s", size, dst, x.Off, src)
		}
		name := map[int32]string{0: "aadd", 64: "aor", 80: "aand", 160: "axor"}[x.Imm]
		return fmt.Sprintf("%s%s %s %+d %s", name, size, dst, x.Off, src)
	case 5:
		return fmt.Sprintf("%s %s %s %+d", pick(jumps, int(x.Op>>4)), dst, value, x.Off)
	case 6:
		return fmt.Sprintf("%s32 %s %s %+d", pick(jumps, int(x.Op>>4)), dst, value, x.Off)
	}
	name := pick(alu, int(x.Op>>4))
	if x.Op&7 == 4 {
		name += "32"
	}
	if x.Op>>4 == 8 {
		return name + " " + dst
	}
	return name + " " + dst + " " + value
}

// inShape is what Text asks: shape.Check, were it not for jumps and the last place.
func inShape(l []api.Insn) bool {
	if len(l) == 0 || len(l) >= api.MaxInsns {
		return false
	}
	tame := append(slices.Clone(l), exit)
	for i, x := range tame {
		if k := insn.Of(x.Op).Kind; k == insn.Jump || k == insn.Always {
			tame[i].Off = 0
		}
	}
	_, err := shape.Check(tame)
	return err == api.OK
}

// linesOf are the lines of a list that is in shape.
func linesOf(l []api.Insn) string {
	var text strings.Builder
	for i, x := range l {
		behind := api.Insn{}
		if i+1 < len(l) {
			behind = l[i+1]
		}
		if x.Op != 0 {
			text.WriteString(words(x, behind) + "\n")
		}
	}
	return text.String()
}

// comes holds Text against what the chapters say of a list, and Parse against Text.
func comes(t *testing.T, l []api.Insn) {
	t.Helper()
	if !inShape(l) {
		refused(t, fmt.Sprintf("%+v", l), l)
		return
	}
	text := linesOf(l)
	mustText(t, l, text)
	mustParse(t, text, l)
}

// P23.1, P23.2: each of the 256 bytes, with each field at the ends of what it may have and beyond.
func TestAllBytes(t *testing.T) {
	registers := []uint8{0, 1, 2, 9, 10, 11, 16, 255}
	offs := []int16{0, 1, -1, 10, math.MaxInt16, math.MinInt16}
	imms := []int32{0, 1, -1, 2, 3, 4, 5, 7, 10, 31, 32, 63, 64, 65, 80, 87, 88, 89, 160, math.MaxInt32, math.MinInt32}
	for op := range 256 {
		for _, dst := range registers {
			for _, src := range registers {
				for _, off := range offs {
					for _, imm := range imms {
						x := api.Insn{Op: uint8(op), Dst: dst, Src: src, Off: off, Imm: imm}
						comes(t, one(x))
						if op == 0x18 || op == 0 {
							comes(t, one(api.Insn{Op: 0x18}, x))
							comes(t, one(x, second))
							comes(t, one(x, api.Insn{Imm: -2}, x))
						}
					}
				}
			}
		}
	}
}

// some is an instruction by chance, in form more often than not.
func some(chance *rand.Rand) []api.Insn {
	ops := []uint8{0x05, 0x85, 0x95, 0x18, 0x18, 0x61, 0x69, 0x71, 0x79, 0x62, 0x7a, 0x63, 0x73, 0xc3, 0xdb, 0x87, 0x84}
	imms := []int32{0, 1, 2, 3, 5, 7, 31, 64, 80, 87, 160, -1, math.MinInt32, math.MaxInt32, int32(chance.Uint32())}
	x := api.Insn{Op: uint8(chance.IntN(256))}
	if chance.IntN(2) == 0 {
		x.Op = ops[chance.IntN(len(ops))]
	}
	p := insn.Of(x.Op)
	x.Dst, x.Off, x.Imm = uint8(chance.IntN(11)), int16(chance.Uint32()), imms[chance.IntN(len(imms))]
	if p.Reg || p.Kind == insn.Load {
		x.Src = uint8(chance.IntN(11))
	}
	switch p.Kind {
	case insn.ALU:
		x.Off = 0
		if p.Reg || p.Op == 8 {
			x.Imm = 0
		}
	case insn.Jump, insn.Store, insn.Load:
		if p.Reg || p.Kind == insn.Load {
			x.Imm = 0
		}
	case insn.Always:
		x.Dst, x.Imm = 0, 0
	case insn.Call:
		x.Dst, x.Off = 0, 0
	case insn.Exit:
		x = exit
	case insn.Wide:
		x.Off, x.Src = 0, uint8(chance.IntN(2))
		if x.Src == 1 {
			x.Imm &= 3
			return one(x, second)
		}
		return one(x, api.Insn{Imm: int32(chance.Uint32())})
	}
	return one(x)
}

// P23.2: instructions by chance come back from their text; those that are in form one by one have it together, too.
func TestListsByChance(t *testing.T) {
	chance := rand.New(rand.NewPCG(23, 2))
	good := 0
	for range 20000 {
		var l []api.Insn
		for range 1 + chance.IntN(6) {
			x := some(chance)
			if !inShape(x) && chance.IntN(8) > 0 {
				continue
			}
			l = append(l, x...)
		}
		if inShape(l) {
			good++
		}
		comes(t, l)
	}
	if good < 5000 {
		t.Errorf("only %d lists were in shape", good)
	}
}

// The chapter's words as patterns; what they mean is for means to see.
const (
	registerWord = `r([0-9]|10)`
	numberWord   = `(0|-?[1-9][0-9]*)`
	offsetWord   = `(\+0|[+-][1-9][0-9]*)`
	eitherWord   = `(r[0-9]|r10|0|-?[1-9][0-9]*)`
)

var patterns = map[string]*regexp.Regexp{
	"alu":    regexp.MustCompile(`\A(add|sub|mul|div|or|and|lsh|rsh|mod|xor|mov|arsh)(32)? ` + registerWord + ` ` + eitherWord + `\n\z`),
	"neg":    regexp.MustCompile(`\Aneg(32)? ` + registerWord + `\n\z`),
	"jump":   regexp.MustCompile(`\Aj(?:eq|gt|ge|set|ne|sgt|sge|lt|le|slt|sle)(32)? ` + registerWord + ` ` + eitherWord + ` ` + offsetWord + `\n\z`),
	"always": regexp.MustCompile(`\Aja ` + offsetWord + `\n\z`),
	"exit":   regexp.MustCompile(`\Aexit\n\z`),
	"call":   regexp.MustCompile(`\Acall (1|2|3|5|7|87|88|89)\n\z`),
	"load":   regexp.MustCompile(`\Ald[1248] r([0-9]) ` + registerWord + ` ` + offsetWord + `\n\z`),
	"store":  regexp.MustCompile(`\Ast[1248] ` + registerWord + ` ` + offsetWord + ` ` + eitherWord + `\n\z`),
	"atomic": regexp.MustCompile(`\A(?:aadd|aor|aand|axor)[48] ` + registerWord + ` ` + offsetWord + ` ` + registerWord + `\n\z`),
	"wide":   regexp.MustCompile(`\Awide r([0-9]) ` + numberWord + `\n\z`),
	"map":    regexp.MustCompile(`\Amap r([0-9]) ([0-3])\n\z`),
}

func between(word string, least, most string) bool {
	n, ok := new(big.Int).SetString(word, 10)
	low, _ := new(big.Int).SetString(least, 10)
	high, _ := new(big.Int).SetString(most, 10)
	return ok && n.Cmp(low) >= 0 && n.Cmp(high) <= 0
}

func isOffset(word string) bool { return between(word, "-32768", "32767") }

func isEither(word string) bool {
	return strings.HasPrefix(word, "r") || between(word, "-2147483648", "2147483647")
}

// means: is a text one good line?
func means(text string) bool {
	for kind, pattern := range patterns {
		m := pattern.FindStringSubmatch(text)
		if m == nil {
			continue
		}
		switch kind {
		case "alu":
			return m[3] != "10" && isEither(m[4]) && !wrongNumber(m[1], m[2] == "", m[4])
		case "neg":
			return m[2] != "10"
		case "jump":
			return isEither(m[3]) && isOffset(m[4])
		case "always":
			return isOffset(m[1])
		case "load":
			return isOffset(m[3])
		case "store":
			return isOffset(m[2]) && isEither(m[3])
		case "atomic":
			return isOffset(m[2])
		case "wide":
			return between(m[2], "0", "18446744073709551615")
		}
		return true
	}
	return false
}

func wrongNumber(name string, long bool, word string) bool {
	n, err := strconv.Atoi(word)
	if err != nil {
		return false // a register
	}
	switch name {
	case "div", "mod":
		return n == 0
	case "lsh", "rsh", "arsh":
		return n < 0 || n > 63 || !long && n > 31
	}
	return false
}

// P23.1, P23.2: a line is taken if the chapter's words say so, and no other: lines that are spoilt by chance.
func TestLinesByChance(t *testing.T) {
	chance := rand.New(rand.NewPCG(23, 1))
	bits := []string{
		"r", "0", "1", "2", "3", "4", "8", "9", "10", "32", "63", "64", "-", "+", " ", "j", "a", "s", "ld", "st", "e", "t",
		"32767", "32768", "2147483647", "2147483648", "18446744073709551615", "r10", "r0 ", " +1", " -1", "exit", "neg", "mov", "\n", "",
	}
	taken, left := 0, 0
	for range 300000 {
		text := known[chance.IntN(len(known))].line + "\n"
		for range 1 + chance.IntN(3) {
			from := chance.IntN(len(text) + 1)
			to := min(len(text), from+chance.IntN(3))
			text = text[:from] + bits[chance.IntN(len(bits))] + text[to:]
		}
		good := text != ""
		for line := range strings.Lines(text) {
			good = good && means(line)
		}
		l, _, err := asm.Parse(text)
		if (err == api.OK) != (good || text == "") {
			t.Fatalf("Parse(%q): %+v, %d, but it is good: %t", text, l, err, good)
		}
		if !good {
			left++
			continue
		}
		taken++
		mustText(t, l, text)
		if !inShape(l) {
			t.Errorf("Parse(%q): %+v, which isn't in shape", text, l)
		}
	}
	if taken < 5000 || left < 5000 {
		t.Errorf("%d taken, %d not", taken, left)
	}
}

// P23.2: no two lines have the same instructions, and no two instructions the same line: numbers and names at all their ends.
func TestTextsAreOwn(t *testing.T) {
	seen := map[string]string{}
	for _, k := range known {
		l, _, _ := asm.Parse(k.line + "\n")
		bytes := string(insn.Encode(l))
		if other, ok := seen[bytes]; ok {
			t.Errorf("%q and %q have the same instructions", k.line, other)
		}
		seen[bytes] = k.line
	}
	for off := math.MinInt16; off <= math.MaxInt16; off++ {
		x := api.Insn{Op: 0x05, Off: int16(off)}
		text := fmt.Sprintf("ja %+d\n", off)
		mustText(t, one(x), text)
		mustParse(t, text, one(x))
	}
}

// P23.3: what is handed in isn't changed, its spare room neither.
func TestArgumentsStay(t *testing.T) {
	wrong := api.Insn{Op: 0x95, Imm: 1}
	for _, end := range []api.Insn{exit, mov, wrong, {Op: 0x05, Off: 9}, {Op: 0x18}, second} {
		l := one(mov, api.Insn{Op: 0x18, Dst: 1, Imm: 5}, api.Insn{Imm: 6}, api.Insn{Op: 0x15, Off: -2}, end)
		whole := append(l, slices.Repeat(one(wrong), 20)...)
		kept := slices.Clone(whole)
		text, err := asm.Text(whole[:5])
		if !slices.Equal(whole, kept) {
			t.Error("Text changed its instructions, or what is behind them")
		}
		clear(whole)
		if again, gotErr := asm.Text(kept[:5]); again != text || gotErr != err {
			t.Error("Text's answer hangs on what was handed in ahead")
		}
	}
}

// P23.1: what stands behind a list's end isn't a Wide's Second.
func TestTextDoesNotLookIntoSpareRoom(t *testing.T) {
	refused(t, "a wide with its second in spare room", one(exit, api.Insn{Op: 0x18}, second, exit)[:2])
}

// P23.3: answers are new memory.
func TestAnswersAreNew(t *testing.T) {
	text := linesOf(one(mov, api.Insn{Op: 0x18, Imm: 3}, api.Insn{Imm: 4}, exit))
	l, _, _ := asm.Parse(text)
	other, _, _ := asm.Parse(text)
	clear(l[:cap(l)])
	third, _, _ := asm.Parse(text)
	want := one(mov, api.Insn{Op: 0x18, Imm: 3}, api.Insn{Imm: 4}, exit)
	if !slices.Equal(other, want) || !slices.Equal(third, want) {
		t.Errorf("answers share memory: %+v, %+v", other, third)
	}
}

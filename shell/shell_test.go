package shell_test

import (
	"fmt"
	"math/rand/v2"
	"regexp"
	"strconv"
	"strings"
	"testing"

	"tipstaff/api"
	"tipstaff/asm"
	"tipstaff/bmap"
	"tipstaff/shell"
	"tipstaff/verify"
)

// lines is a text of lines, each with its end.
func lines(l ...string) string {
	return strings.Join(append(l, ""), "\n")
}

// mustRun holds an answer against the lines that are wanted.
func mustRun(t *testing.T, text string, want ...string) {
	t.Helper()
	if answer := shell.Run(text); answer != lines(want...) {
		t.Errorf("Run(%.300q):\n%snot\n%s", text, answer, lines(want...))
	}
}

// bothAccept holds the answer to a program that is accepted either way, in so many steps, against that of its run.
func bothAccept(t *testing.T, text string, steps int, run, values string) {
	t.Helper()
	checked := fmt.Sprintf("0 at 0 in %d steps", steps)
	mustRun(t, text, "checked: "+checked, "privileged: "+checked, "run: "+run, "map: "+values)
}

// find is the lines that look a value of the map up: register 0 has its place; where there is none, they go over so many
// instructions behind them.
func find(number, over int) []string {
	return []string{
		"st4 r10 -4 " + strconv.Itoa(number), "map r1 0", "mov r2 r10", "add r2 -4", "call 1",
		fmt.Sprintf("jeq r0 0 +%d", over),
	}
}

// P24.1: the chapter's example.
func TestExample(t *testing.T) {
	mustRun(t, lines("mov r0 7", "exit"),
		"checked: 0 at 0 in 2 steps", "privileged: 0 at 0 in 2 steps", "run: 7 in 2 steps", "map: 0 0 0 0")
}

// P24.1: a text that is none of a program: the first line that is wrong.
func TestWrongLines(t *testing.T) {
	for text, line := range map[string]int{
		"\n":                                1,
		" ":                                 1,
		"exit":                              1,
		"exit\r\n":                          1,
		"mov r0 7\n\nexit\n":                2,
		"mov r0 7\nexit":                    2,
		"mov r0 1\nmov r0\n":                2,
		"mov r0 1\nmov r0\nmov\n":           2,
		"mov r0 7\nexit\n\n":                3,
		"mov r0 7\nexit\n#":                 3,
		"mov r10 0\nexit\n":                 1,
		"map r1 4\nexit\n":                  1,
		"wide r1 1\nexit\nld3 r0 r1 +0\n":   3,
		strings.Repeat("exit\n", 299) + "x": 300,
	} {
		mustRun(t, text, fmt.Sprintf("line %d: error 22", line))
	}
}

// P24.1: 256 instructions, and one more.
func TestTooManyInstructions(t *testing.T) {
	most := strings.Repeat("mov r0 7\n", 255) + "exit\n"
	bothAccept(t, most, 256, "7 in 256 steps", "0 0 0 0")
	mustRun(t, "mov r0 7\n"+most, "line 0: error 7")
	// A Wide's Second is one, too.
	wides := strings.Repeat("wide r0 9\n", 127) + "mov r1 0\nexit\n"
	bothAccept(t, wides, 129, "9 in 129 steps", "0 0 0 0")
	mustRun(t, "mov r1 0\n"+wides, "line 0: error 7")
}

// P24.1: what isn't in form, as a whole.
func TestInvalid(t *testing.T) {
	for text, at := range map[string]int{
		"":                                0,
		"mov r0 7\n":                      0,
		"exit\nmov r0 7\n":                1,
		"mov r0 7\nja +1\nexit\n":         1,
		"mov r0 7\nja -3\nexit\n":         1,
		"ja +1\nwide r0 0\nexit\n":        0, // into a Second
		"mov r0 7\nja +1\nexit\nexit\n":   2, // never come to
		"mov r0 7\nexit\nja -1\n":         2,
		"exit\nwide r0 0\nexit\n":         1,
		"mov r0 7\nwide r1 0\nmov r2 2\n": 3,
	} {
		fault := fmt.Sprintf("22 at %d in 0 steps", at)
		mustRun(t, text, "checked: "+fault, "privileged: "+fault)
	}
}

// P24.1: what isn't safe, either way, isn't run.
func TestUnsafe(t *testing.T) {
	for _, c := range []struct {
		text string
		at   int
	}{
		{lines("exit"), 0},
		{lines("mov r0 r1", "exit"), 1},
		{lines("mov r0 r5", "exit"), 0},
		{lines("mov r0 7", "st8 r1 +0 1", "exit"), 1},
		{lines("ld1 r0 r1 +32", "exit"), 0},
		{lines("ld8 r0 r10 -8", "exit"), 0},
		{lines("mov r0 7", "st8 r10 -72 1", "exit"), 1},
		{lines("mov r0 7", "call 88", "exit"), 1},
		// There is one map: that of slot 0.
		{lines("mov r0 7", "map r1 1", "exit"), 1},
		{lines("map r1 3", "exit"), 0},
		// It has no more than 8 bytes a value, is an Array, and its keys have 4 bytes.
		{lines(append(find(1, 1), "ld1 r0 r0 +8", "exit")...), 7},
		{lines("st8 r10 -8 0", "map r1 0", "mov r2 r10", "add r2 -8", "call 3", "exit"), 5},
		{lines("st8 r10 -8 0", "map r1 0", "mov r2 r10", "add r2 -8", "call 89", "exit"), 5},
		{lines("st8 r10 -8 0", "map r1 0", "mov r2 r10", "add r2 -3", "call 1", "mov r0 0", "exit"), 5},
		{lines(append(find(1, 0), "ld1 r0 r0 +0", "exit")...), 7},
	} {
		answer := shell.Run(c.text)
		pattern := fmt.Sprintf("^checked: 13 at %d in ([0-9]+) steps\nprivileged: 13 at %d in ([0-9]+) steps\n$", c.at, c.at)
		if !regexp.MustCompile(pattern).MatchString(answer) {
			t.Errorf("Run(%q):\n%snot at %d", c.text, answer, c.at)
		}
	}
}

// P24.1: loops are for privileged programs.
func TestLoops(t *testing.T) {
	loop := append([]string{"mov r0 0", "add r0 3", "jne r0 30 -2"}, find(1, 1)...)
	mustRun(t, lines(append(loop, "st8 r0 +0 6", "mov r0 8", "exit")...),
		"checked: 22 at 0 in 0 steps", "privileged: 0 at 0 in 31 steps", "run: 8 in 30 steps", "map: 0 6 0 0")
}

// P24.1: fuel is for 1000 steps, and not for one more; what was done till then stands in the map.
func TestFuel(t *testing.T) {
	mustRun(t, lines("ja -1"),
		"checked: 22 at 0 in 0 steps", "privileged: 0 at 0 in 1 steps", "run: error 62 in 1000 steps", "map: 0 0 0 0")
	count := func(ahead int) string {
		return lines("mov r1 0", "add r1 1", "jne r1 499 -2", strings.Repeat("mov r0 7\n", ahead)+"exit")
	}
	mustRun(t, count(0), "checked: 22 at 0 in 0 steps", "privileged: 13 at 3 in 999 steps")
	mustRun(t, count(1),
		"checked: 22 at 0 in 0 steps", "privileged: 0 at 0 in 1001 steps", "run: error 62 in 1000 steps", "map: 0 0 0 0")
	exact := strings.Replace(count(1), "mov r1 0\n", "mov r1 1\n", 1)
	mustRun(t, exact,
		"checked: 22 at 0 in 0 steps", "privileged: 0 at 0 in 999 steps", "run: 7 in 999 steps", "map: 0 0 0 0")
	mustRun(t, strings.Replace(exact, "mov r0 7\n", "mov r0 7\nmov r0 8\n", 1),
		"checked: 22 at 0 in 0 steps", "privileged: 0 at 0 in 1000 steps", "run: 8 in 1000 steps", "map: 0 0 0 0")

	adding := lines(append(find(2, 3), "mov r6 1", "aadd8 r0 +0 r6", "ja -2", "exit")...)
	answer := shell.Run(adding)
	if want := lines("run: error 62 in 1000 steps", "map: 0 0 497 0"); !strings.HasSuffix(answer, want) {
		t.Errorf("Run(%q):\n%snot %s", adding, answer, want)
	}
}

// P24.1: a check that would take too many steps.
func TestTooManySteps(t *testing.T) {
	// Register 1 has another number each time: no state covers another one.
	mustRun(t, lines("mov r1 0", "add r1 1", "ja -2"),
		"checked: 22 at 0 in 0 steps", "privileged: 7 at 2 in 2048 steps")
	// Each byte of the context doubles what register 0 may have.
	doubled := func(times int) string {
		text := "mov r0 0\n"
		for n := range times {
			text += fmt.Sprintf("ld1 r2 r1 +%d\njeq r2 %d +1\nadd r0 %d\n", n, n, 1<<n)
		}
		return text + "exit\n"
	}
	if answer := shell.Run(doubled(8)); !regexp.MustCompile(
		"^checked: 7 at [0-9]+ in 512 steps\nprivileged: 0 at 0 in [0-9]+ steps\nrun: 0 in 18 steps\nmap: 0 0 0 0\n$").MatchString(answer) {
		t.Errorf("doubled 8 times:\n%s", answer)
	}
	if answer := shell.Run(doubled(12)); !regexp.MustCompile(
		"^checked: 7 at [0-9]+ in 512 steps\nprivileged: 7 at [0-9]+ in 2048 steps\n$").MatchString(answer) {
		t.Errorf("doubled 12 times:\n%s", answer)
	}
}

// P24.1: with privilege alone places of cells are moved by numbers that are bounded.
func TestPrivileged(t *testing.T) {
	text := lines(append([]string{"ld1 r6 r1 +13", "and r6 7"}, append(find(3, 3), "add r0 r6", "st1 r0 +0 255", "mov r0 r6", "exit")...)...)
	want := "^checked: 13 at 9 in [0-9]+ steps\nprivileged: 0 at 0 in [0-9]+ steps\nrun: 5 in 12 steps\nmap: 0 0 0 280375465082880\n$"
	if answer := shell.Run(text); !regexp.MustCompile(want).MatchString(answer) {
		t.Errorf("Run(%q):\n%s", text, answer)
	}
}

// P24.1: a run's value is a number without a sign.
func TestValues(t *testing.T) {
	for word, value := range map[string]string{
		"mov r0 0": "0", "mov r0 -1": "18446744073709551615", "mov32 r0 -1": "4294967295",
		"wide r0 9223372036854775808": "9223372036854775808", "wide r0 10000000000000000000": "10000000000000000000",
	} {
		bothAccept(t, lines(word, "exit"), 2, value+" in 2 steps", "0 0 0 0")
	}
}

// P24.1: the context has the bytes 0 to 31.
func TestContext(t *testing.T) {
	for place := range 32 {
		text := lines(fmt.Sprintf("ld1 r0 r1 +%d", place), "exit")
		bothAccept(t, text, 2, fmt.Sprintf("%d in 2 steps", place), "0 0 0 0")
	}
	bothAccept(t, lines("ld8 r0 r1 +24", "exit"), 2, fmt.Sprintf("%d in 2 steps", 0x1f1e1d1c1b1a1918), "0 0 0 0")
}

// P24.1: the clock tells 1000, however often; the random numbers are 7 and 8, and then 0.
func TestClockAndRandom(t *testing.T) {
	bothAccept(t, lines("call 5", "exit"), 2, "1000 in 2 steps", "0 0 0 0")
	bothAccept(t, lines("call 5", "call 5", "exit"), 3, "1000 in 3 steps", "0 0 0 0")
	for calls, value := range []int{1: 7, 2: 8, 3: 0, 4: 0} {
		if calls > 0 {
			text := lines(strings.Repeat("call 7\n", calls) + "exit")
			bothAccept(t, text, calls+1, fmt.Sprintf("%d in %d steps", value, calls+1), "0 0 0 0")
		}
	}
	bothAccept(t, lines("call 7", "mov r6 r0", "call 7", "sub r0 r6", "exit"), 5, "1 in 5 steps", "0 0 0 0")
}

// P24.1: each of the map's four values, told the lowest byte first.
func TestMap(t *testing.T) {
	for n, values := range []string{"-1 0 0 0", "0 -1 0 0", "0 0 -1 0", "0 0 0 -1"} {
		text := lines(append(find(n, 2), "st8 r0 +0 -1", "mov r0 0", "exit")...)
		answer := shell.Run(text)
		want := lines("run: 0 in 9 steps", "map: "+strings.Replace(values, "-1", "18446744073709551615", 1))
		if !strings.HasSuffix(answer, "\n"+want) {
			t.Errorf("value %d:\n%snot\n%s", n, answer, want)
		}
	}
	for at, value := range []string{"1", "256", "65536", "16777216", "4294967296", "1099511627776", "281474976710656", "72057594037927936"} {
		text := lines(append(find(2, 2), fmt.Sprintf("st1 r0 +%d 1", at), "mov r0 0", "exit")...)
		if answer := shell.Run(text); !strings.HasSuffix(answer, "\nmap: 0 0 "+value+" 0\n") {
			t.Errorf("byte %d:\n%snot %s", at, answer, value)
		}
	}
	// All are noughts ahead, and there is no fifth.
	for n := range 4 {
		text := lines(append(find(n, 1), "ld8 r0 r0 +0", "exit")...)
		if answer := shell.Run(text); !strings.HasSuffix(answer, "\nrun: 0 in 8 steps\nmap: 0 0 0 0\n") {
			t.Errorf("value %d ahead:\n%s", n, answer)
		}
	}
	text := lines(append(find(4, 1), "mov r0 1", "exit")...)
	if answer := shell.Run(text); !strings.HasSuffix(answer, "\nrun: 0 in 7 steps\nmap: 0 0 0 0\n") {
		t.Errorf("a fifth value:\n%s", answer)
	}
}

// P24.1: the map may be changed by its call, too, and tells its errors.
func TestUpdate(t *testing.T) {
	update := func(key, flags int) string {
		return lines(fmt.Sprintf("st4 r10 -4 %d", key), "wide r3 12345678901234567890", "st8 r10 -16 r3", "map r1 0",
			"mov r2 r10", "add r2 -4", "mov r3 r10", "add r3 -16", fmt.Sprintf("mov r4 %d", flags), "call 2", "exit")
	}
	bothAccept(t, update(3, 0), 11, "0 in 11 steps", "0 0 0 12345678901234567890")
	bothAccept(t, update(0, 2), 11, "0 in 11 steps", "12345678901234567890 0 0 0")
	bothAccept(t, update(0, 1), 11, "18446744073709551599 in 11 steps", "0 0 0 0")
	bothAccept(t, update(4, 0), 11, "18446744073709551609 in 11 steps", "0 0 0 0")
	bothAccept(t, update(0, 3), 11, "18446744073709551594 in 11 steps", "0 0 0 0")
}

// P24.1: an answer hangs on its text alone: each run has a map of its own.
func TestRunsAreApart(t *testing.T) {
	text := lines(append(find(0, 4), "ld8 r6 r0 +0", "add r6 1", "st8 r0 +0 r6", "mov r0 r6", "exit")...)
	first := shell.Run(text)
	if want := lines("run: 1 in 11 steps", "map: 1 0 0 0"); !strings.HasSuffix(first, want) {
		t.Errorf("Run(%q):\n%snot %s", text, first, want)
	}
	if again := shell.Run(text); again != first {
		t.Errorf("Run again:\n%snot\n%s", again, first)
	}
}

// told is what comes ahead of a run, and whether there is one.
func told(text string) (string, bool) {
	l, line, err := asm.Parse(text)
	if err != api.OK {
		return fmt.Sprintf("line %d: error %d\n", line, err), false
	}
	e := verify.Env{Specs: []bmap.Spec{{Type: api.Array, Key: 4, Value: 8, Entries: 4}}, Frozen: []bool{false}}
	checked, err := verify.Check(l, e)
	e.Privileged = true
	privileged, fault := verify.Check(l, e)
	return fmt.Sprintf("checked: %d at %d in %d steps\nprivileged: %d at %d in %d steps\n",
		err, checked.At, checked.Steps, fault, privileged.At, privileged.Steps), fault == api.OK
}

var runForm = regexp.MustCompile(`^run: (\d+|error 62) in \d+ steps\nmap: \d+ \d+ \d+ \d+\n$`)

// mustHaveForm holds an answer against what the checks tell, and a run's against its form; it tells whether there was one.
func mustHaveForm(t *testing.T, text string) bool {
	t.Helper()
	ahead, runs := told(text)
	run, found := strings.CutPrefix(shell.Run(text), ahead)
	if !found || runs != (run != "") || runs && !runForm.MatchString(run) {
		t.Errorf("Run(%q):\n%s", text, shell.Run(text))
	}
	return runs
}

// P24.1: of all texts: lines by chance. None that is accepted ends by EFAULT (P4).
func TestLinesByChance(t *testing.T) {
	chance := rand.New(rand.NewPCG(24, 1))
	words := []string{
		"mov r0 7", "mov r6 r1", "mov r0 r6", "add r0 r6", "add r6 4", "and r6 7", "and r0 7", "mul32 r0 r0", "neg r0",
		"ld1 r6 r1 +3", "ld8 r0 r1 +24", "ld4 r0 r10 -4", "ld8 r6 r10 -8", "st4 r10 -4 1", "st8 r10 -8 r6", "st8 r0 +0 r6",
		"aadd8 r0 +0 r6", "aadd4 r10 -4 r6", "call 5", "call 7", "call 1", "call 2", "call 88", "mov r2 r10", "add r2 -4",
		"map r1 0", "map r1 1", "wide r6 18446744073709551615", "jeq r0 0 +1", "jne r0 0 -2", "jlt r6 8 +2", "jset32 r6 r0 +0",
		"ja +1", "ja -3", "exit",
	}
	ran := 0
	for range 6000 {
		l := []string{"mov r0 1", "mov r6 2", "st8 r10 -8 0"}[:chance.IntN(4)]
		for range chance.IntN(8) {
			l = append(l, words[chance.IntN(len(words))])
		}
		if chance.IntN(3) == 0 {
			l = append(l, find(chance.IntN(5), 1)...)
			l = append(l, words[chance.IntN(len(words))])
		}
		if chance.IntN(10) > 0 {
			l = append(l, "exit")
		}
		if mustHaveForm(t, lines(l...)) {
			ran++
		}
	}
	if ran < 300 {
		t.Errorf("only %d programs ran", ran)
	}
}

// P24.1: of all texts: long ones.
func TestLongTexts(t *testing.T) {
	mustRun(t, strings.Repeat("mov r0 7\n", 30000)+"exit\n", "line 0: error 7")
	mustRun(t, strings.Repeat("mov r0 7\n", 30000)+"exit", "line 30001: error 22")
	mustRun(t, strings.Repeat("7", 1<<24), "line 1: error 22")
	mustRun(t, strings.Repeat("\n", 1<<24), "line 1: error 22")
}

// P24.1: of all texts: bytes by chance, and a program with some of its bytes spoilt.
func TestBytesByChance(t *testing.T) {
	chance := rand.New(rand.NewPCG(24, 2))
	right := lines(append(find(1, 2), "st8 r0 +0 6", "mov r0 8", "exit")...)
	for range 2000 {
		b := make([]byte, chance.IntN(30))
		for i := range b {
			b[i] = byte(chance.IntN(256))
		}
		mustHaveForm(t, string(b))
		spoilt := []byte(right)
		for range 1 + chance.IntN(2) {
			spoilt[chance.IntN(len(spoilt))] = "0123456789+- r\nx"[chance.IntN(16)]
		}
		mustHaveForm(t, string(spoilt))
	}
}

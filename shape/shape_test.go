package shape_test

import (
	"fmt"
	"math"
	"slices"
	"testing"

	"tipstaff/api"
	"tipstaff/insn"
	"tipstaff/shape"
)

var (
	exit   = api.Insn{Op: 0x95}
	mov    = api.Insn{Op: 0xb7}
	wide   = api.Insn{Op: 0x18}
	second = api.Insn{}
	// wrong isn't in form, whatever stands around it.
	wrong = api.Insn{Op: 0x95, Imm: 1}
)

func jump(off int16) api.Insn { return api.Insn{Op: 0x15, Off: off} }

func always(off int16) api.Insn { return api.Insn{Op: 0x05, Off: off} }

// movs are n instructions that are in form, without an end.
func movs(n int) []api.Insn { return slices.Repeat([]api.Insn{mov}, n) }

func program(parts ...[]api.Insn) []api.Insn { return slices.Concat(parts...) }

func one(l ...api.Insn) []api.Insn { return l }

// expect holds Check's answer against what is wanted.
func expect(t *testing.T, name string, l []api.Insn, at int, err api.Errno) {
	t.Helper()
	if gotAt, gotErr := shape.Check(l); gotAt != at || gotErr != err {
		t.Errorf("%s: %d, %d, not %d, %d", name, gotAt, gotErr, at, err)
	}
}

// alone tells whether an instruction is in form by itself: a fault of form behind it is then the first one, and is
// found ahead of jumps that go astray.
func alone(x api.Insn) bool {
	at, err := shape.Check([]api.Insn{x, wrong})
	return at == 1 && err == api.EINVAL
}

// has are the values that a field may have.
type has func(x int) bool

func nought(x int) bool { return x == 0 }

func below(n int) has { return func(x int) bool { return x >= 0 && x < n } }

func oneOf(l ...int) has { return func(x int) bool { return slices.Contains(l, x) } }

func whatever(int) bool { return true }

func notNought(x int) bool { return x != 0 }

// form is what a kind's fields may have.
type form struct{ dst, src, off, imm has }

func (f form) holds(x api.Insn) bool {
	return f.dst(int(x.Dst)) && f.src(int(x.Src)) && f.off(int(x.Off)) && f.imm(int(x.Imm))
}

func never(int) bool { return false }

// formOf is the chapter's table, for kinds that ask nothing of their neighbours.
func formOf(op uint8) form {
	switch p := insn.Of(op); p.Kind {
	case insn.ALU:
		return formOfALU(p)
	case insn.Jump, insn.Store:
		if p.Reg {
			return form{below(11), below(11), whatever, nought}
		}
		return form{below(11), nought, whatever, whatever}
	case insn.Always:
		return form{nought, nought, whatever, nought}
	case insn.Call:
		return form{nought, nought, nought, oneOf(1, 2, 3, 5, 7, 87, 88, 89)}
	case insn.Exit:
		return form{nought, nought, nought, nought}
	case insn.Load:
		return form{below(10), below(11), whatever, nought}
	case insn.Atomic:
		return form{below(11), below(11), whatever, oneOf(0, 64, 80, 160)}
	}
	return form{never, never, never, never} // a Wide or a Second alone, or Bad
}

func formOfALU(p insn.Parts) form {
	f := form{below(10), nought, nought, whatever}
	switch {
	case p.Op == 8: // neg
		f.imm = nought
	case p.Reg:
		f.src, f.imm = below(11), nought
	case p.Op == 3 || p.Op == 9: // div, mod
		f.imm = notNought
	case p.Op == 6 || p.Op == 7 || p.Op == 12: // lsh, rsh, arsh
		f.imm = below(32)
		if p.Long {
			f.imm = below(64)
		}
	}
	return f
}

// P5.1: each of the 256 bytes, with each field at the ends of what it may have and beyond, one or two at a time.
func TestFormOfAllBytes(t *testing.T) {
	registers := []uint8{0, 1, 9, 10, 11, 15, 16, 26, 128, 255}
	offs := []int16{0, 1, -1, 2, 255, math.MaxInt16, math.MinInt16}
	imms := []int32{
		0, 1, -1, 2, 3, 4, 5, 6, 7, 8, 31, 32, 63, 64, 65, 79, 80, 81, 86, 87, 88, 89, 90, 159, 160, 161,
		math.MaxInt32, math.MinInt32, 256, 1 << 16, -31, -64,
	}
	for op := range 256 {
		f := formOf(uint8(op))
		for _, dst := range registers {
			for _, src := range registers {
				for _, off := range offs {
					for _, imm := range imms {
						x := api.Insn{Op: uint8(op), Dst: dst, Src: src, Off: off, Imm: imm}
						if got, want := alone(x), f.holds(x); got != want {
							t.Fatalf("is %+v (op %02x) in form? %t, not %t", x, op, got, want)
						}
					}
				}
			}
		}
	}
}

// P5.1: one program of each kind that is in form.
func TestProgramsInForm(t *testing.T) {
	for name, l := range map[string][]api.Insn{
		"exit":                    {exit},
		"a jump to itself":        {always(-1)},
		"mov":                     {{Op: 0xb7, Dst: 9, Imm: math.MinInt32}, exit},
		"mov of the frame":        {{Op: 0xbf, Dst: 2, Src: 10}, exit},
		"neg":                     {{Op: 0x84, Dst: 3}, {Op: 0x87, Dst: 3}, exit},
		"div and mod by numbers":  {{Op: 0x34, Imm: 1}, {Op: 0x97, Imm: -1}, exit},
		"div and mod by a place":  {{Op: 0x3c, Src: 1}, {Op: 0x9f, Src: 1}, exit},
		"shifts at their ends":    {{Op: 0x64, Imm: 31}, {Op: 0x77, Imm: 63}, {Op: 0xc4}, exit},
		"a jump on the frame":     {{Op: 0x1d, Dst: 10, Src: 10, Off: -1}, exit},
		"each helper":             {call(1), call(2), call(3), call(5), call(7), call(87), call(88), call(89), exit},
		"load":                    {{Op: 0x61, Dst: 9, Src: 10, Off: math.MinInt16}, exit},
		"store of a number":       {{Op: 0x7a, Dst: 10, Off: -8, Imm: -1}, exit},
		"store of a register":     {{Op: 0x73, Dst: 10, Src: 10, Off: -8}, exit},
		"atomic":                  {{Op: 0xc3, Dst: 10, Src: 10, Off: -8, Imm: 160}, exit},
		"wide":                    {{Op: 0x18, Dst: 9, Imm: math.MinInt32}, {Imm: math.MinInt32}, exit},
		"wide of a map":           {{Op: 0x18, Dst: 9, Src: 1, Imm: 3}, {}, exit},
		"two wides":               {wide, second, wide, second, exit},
		"a jump back at its end":  {mov, always(-2)},
		"more than one exit":      {exit, exit, exit},
		"what is never gone to":   {always(1), {Op: 0x95}, exit},
		"jumps to all beginnings": {wide, second, jump(-3), jump(0), jump(1), jump(-2), exit},
	} {
		expect(t, name, l, 0, api.OK)
	}
}

func call(helper int32) api.Insn { return api.Insn{Op: 0x85, Imm: helper} }

// P5.1: a Wide and its Second: what either asks of the other, and whose fault it is.
func TestWideAndSecond(t *testing.T) {
	ofMap := func(slot int32) api.Insn { return api.Insn{Op: 0x18, Src: 1, Imm: slot} }
	for _, c := range []struct {
		name string
		l    []api.Insn
		at   int // -1: in form
	}{
		{"wide with all that it may have", one(api.Insn{Op: 0x18, Dst: 9, Imm: -1}, api.Insn{Imm: -1}, exit), -1},
		{"wide into the frame", one(api.Insn{Op: 0x18, Dst: 10}, second, exit), 0},
		{"wide with Dst 11", one(api.Insn{Op: 0x18, Dst: 11}, second, exit), 0},
		{"wide with Off", one(api.Insn{Op: 0x18, Off: 1}, second, exit), 0},
		{"wide with Src 2", one(api.Insn{Op: 0x18, Src: 2}, second, exit), 0},
		{"wide with Src 10", one(api.Insn{Op: 0x18, Src: 10}, second, exit), 0},
		{"wide with Src 17", one(api.Insn{Op: 0x18, Src: 17}, second, exit), 0},
		{"map 0", one(ofMap(0), second, exit), -1},
		{"map 3", one(ofMap(3), second, exit), -1},
		{"map 4", one(ofMap(4), second, exit), 0},
		{"map -1", one(ofMap(-1), second, exit), 0},
		{"the least map", one(ofMap(math.MinInt32), second, exit), 0},
		{"a map, and more in its second", one(ofMap(2), api.Insn{Imm: 1}, exit), 0},
		{"a map, and less in its second", one(ofMap(2), api.Insn{Imm: -1}, exit), 0},
		{"a map, into the frame", one(api.Insn{Op: 0x18, Dst: 10, Src: 1}, second, exit), 0},
		{"second with Dst", one(wide, api.Insn{Dst: 1}, exit), 1},
		{"second with Src", one(wide, api.Insn{Src: 1}, exit), 1},
		{"second with Off", one(wide, api.Insn{Off: 1}, exit), 1},
		{"a map, and a second with Dst", one(ofMap(1), api.Insn{Dst: 1}, exit), 1},
		{"wide at the end", one(mov, wide), 1},
		{"wide before another", one(wide, wide, second, exit), 0},
		{"wide before mov", one(mov, wide, mov, exit), 1},
		{"wide of a map before mov", one(mov, ofMap(0), mov, exit), 1},
		{"second at the beginning", one(second, exit), 0},
		{"second alone", one(second), 0},
		{"second behind mov", one(mov, second, exit), 1},
		{"second behind a second", one(wide, second, second, exit), 2},
		{"second behind what is Bad", one(api.Insn{Op: 0x01}, second, exit), 0},
	} {
		if c.at < 0 {
			expect(t, c.name, c.l, 0, api.OK)
		} else {
			expect(t, c.name, c.l, c.at, api.EINVAL)
		}
	}
}

// P5.1: where jumps may go: to each place of the program but to a Second.
func TestWhereJumpsGo(t *testing.T) {
	for _, leap := range []func(int16) api.Insn{jump, always, far, register} {
		// Places: 0 mov, 1 and 2 wide, 3 mov, 4 the jump, 5 mov, 6 and 7 wide, 8 exit.
		for off := -12; off <= 12; off++ {
			l := one(mov, wide, second, mov, leap(int16(off)), mov, wide, second, exit)
			switch to := 4 + off + 1; to {
			case 0, 1, 3, 4, 5, 6, 8:
				expect(t, fmt.Sprint("a jump to ", to), l, 0, api.OK)
			default:
				expect(t, fmt.Sprint("a jump to ", to), l, 4, api.EINVAL)
			}
		}
		for _, off := range []int16{math.MinInt16, math.MaxInt16} {
			expect(t, fmt.Sprint("a jump by ", off), one(mov, leap(off), exit), 1, api.EINVAL)
		}
	}
}

// far is a jump that holds numbers of 32 bits against each other, register one that holds registers.
func far(off int16) api.Insn { return api.Insn{Op: 0xd6, Dst: 10, Off: off, Imm: -1} }

func register(off int16) api.Insn { return api.Insn{Op: 0xad, Dst: 1, Src: 10, Off: off} }

// P5.1: other kinds' Off isn't that of a jump.
func TestOffOfOthersGoesNowhere(t *testing.T) {
	for _, op := range []uint8{0x61, 0x72, 0x7b, 0xc3} {
		expect(t, fmt.Sprintf("%02x", op), one(api.Insn{Op: op, Off: 1000}, exit), 0, api.OK)
	}
}

// P5.1: jumps over the greatest ways that a program has.
func TestFarthestJumps(t *testing.T) {
	expect(t, "to the last", program(one(always(254)), movs(254), one(exit)), 0, api.OK)
	expect(t, "behind the last", program(one(always(255)), movs(254), one(exit)), 0, api.EINVAL)
	expect(t, "to the first", program(movs(255), one(always(-256))), 0, api.OK)
	expect(t, "ahead of the first", program(movs(255), one(always(-257))), 255, api.EINVAL)
}

// P5.1: the last place has Exit or Always, whatever else is there.
func TestLastPlace(t *testing.T) {
	for name, x := range map[string]api.Insn{
		"mov":    mov,
		"jump":   jump(-1),
		"call":   call(5),
		"load":   {Op: 0x61},
		"store":  {Op: 0x62},
		"atomic": {Op: 0xc3},
		"neg":    {Op: 0x87},
	} {
		expect(t, name, one(x), 0, api.EINVAL)
		expect(t, name+" behind exit", one(exit, exit, x), 2, api.EINVAL)
	}
	expect(t, "second", one(exit, wide, second), 2, api.EINVAL)
	expect(t, "exit", one(mov, exit), 0, api.OK)
	expect(t, "always", one(mov, always(-1)), 0, api.OK)
}

// P5.1: forms come ahead of jumps, and jumps ahead of the last place; of several the first is told.
func TestOrderOfFaults(t *testing.T) {
	for _, c := range []struct {
		name string
		l    []api.Insn
		at   int
	}{
		{"two forms", one(mov, wrong, wrong, exit), 1},
		{"a form behind a jump", one(jump(9), mov, wrong, exit), 2},
		{"a form at the last place", one(jump(9), mov, wrong), 2},
		{"two jumps", one(mov, jump(9), jump(9), exit), 1},
		{"a jump back and one on", one(mov, always(-9), jump(9), exit), 1},
		{"a jump ahead of the last place", one(mov, jump(9), mov), 1},
		{"a jump at the last place", one(mov, mov, jump(9)), 2},
		{"the last place alone", one(mov, jump(0), mov), 2},
		{"a jump into a wide that has no second", one(always(0), wide, mov, exit), 1},
	} {
		expect(t, c.name, c.l, c.at, api.EINVAL)
	}
}

// P5.1: an empty program, as many instructions as the limit allows, and one more.
func TestCounts(t *testing.T) {
	expect(t, "nil", nil, 0, api.EINVAL)
	expect(t, "empty", []api.Insn{}, 0, api.EINVAL)
	expect(t, "as many as may be", program(movs(api.MaxInsns-1), one(exit)), 0, api.OK)
	expect(t, "without an end", movs(api.MaxInsns), api.MaxInsns-1, api.EINVAL)
	expect(t, "one more", program(movs(api.MaxInsns), one(exit)), 0, api.E2BIG)
	expect(t, "one more, not in form", program(movs(7), one(wrong), movs(api.MaxInsns-7)), 0, api.E2BIG)
	expect(t, "many more", movs(10*api.MaxInsns), 0, api.E2BIG)
	expect(t, "a fault at the last place that may be", program(movs(api.MaxInsns-1), one(wrong)), api.MaxInsns-1, api.EINVAL)
}

// P5.1: a jump's target is counted from the place behind it, whatever the instruction is.
func TestTarget(t *testing.T) {
	for _, c := range []struct {
		at   int
		off  int16
		want int
	}{
		{0, 0, 1}, {0, -1, 0}, {5, 3, 9}, {5, -6, 0}, {5, -7, -1}, {-3, 1, -1},
		{0, math.MaxInt16, 1 << 15}, {0, math.MinInt16, 1 - 1<<15}, {255, math.MaxInt16, 255 + 1<<15},
		{math.MaxInt - 1, 0, math.MaxInt}, {math.MaxInt, -1, math.MaxInt}, {math.MinInt, 0, math.MinInt + 1},
	} {
		for _, x := range []api.Insn{{}, {Op: 0x05}, {Op: 0xff, Dst: 200, Src: 201, Imm: -7}} {
			x.Off = c.off
			if got := shape.Target(c.at, x); got != c.want {
				t.Errorf("Target(%d, %+v): %d, not %d", c.at, x, got, c.want)
			}
		}
	}
}

// P5.1: the eight helpers, and nothing else.
func TestArgs(t *testing.T) {
	helpers := map[int32]int{1: 2, 2: 4, 3: 2, 5: 0, 7: 0, 87: 3, 88: 2, 89: 2}
	try := func(helper int32) {
		want, ok := helpers[helper]
		if got, gotOK := shape.Args(helper); got != want || gotOK != ok {
			t.Errorf("Args(%d): %d, %t, not %d, %t", helper, got, gotOK, want, ok)
		}
	}
	for helper := int32(-300); helper <= 70000; helper++ {
		try(helper)
	}
	for _, helper := range []int32{math.MinInt32, math.MaxInt32, 1 << 24, 1<<24 + 1, 1<<31 - 256 + 5} {
		try(helper)
	}
}

// P5.2: neither what is handed in changes, nor its spare room, and it isn't kept.
func TestArgumentsStay(t *testing.T) {
	for _, end := range []api.Insn{exit, mov, wrong, jump(9)} {
		whole := program(one(mov, wide, second, jump(-2), end), slices.Repeat(one(wrong), 20))
		kept := slices.Clone(whole)
		at, err := shape.Check(whole[:5])
		if !slices.Equal(whole, kept) {
			t.Error("Check changed its instructions, or what is behind them")
		}
		clear(whole)
		if gotAt, gotErr := shape.Check(kept[:5]); gotAt != at || gotErr != err {
			t.Error("Check's answer hangs on what was handed in ahead")
		}
	}
}

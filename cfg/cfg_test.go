package cfg_test

import (
	"math"
	"math/rand/v2"
	"slices"
	"testing"

	"tipstaff/api"
	"tipstaff/cfg"
	"tipstaff/insn"
)

var (
	mov    = api.Insn{Op: 0xb7}
	exit   = api.Insn{Op: 0x95}
	wide   = api.Insn{Op: 0x18}
	second = api.Insn{}
	bad    = api.Insn{Op: 0xff}
	call   = api.Insn{Op: 0x85, Imm: 7}
	load   = api.Insn{Op: 0x79, Src: 1}
	store  = api.Insn{Op: 0x7a, Dst: 10, Off: -8}
	atomic = api.Insn{Op: 0xdb, Dst: 10, Off: -8}
)

func jump(off int16) api.Insn { return api.Insn{Op: 0x15, Off: off} }

func always(off int16) api.Insn { return api.Insn{Op: 0x05, Off: off} }

func one(l ...api.Insn) []api.Insn { return l }

// behind is where an instruction leads, told anew: by its kind, and with places that there are alone.
func behind(l []api.Insn, at int) []int {
	x := l[at]
	far := at + 1 + int(x.Off)
	var all []int
	switch insn.Of(x.Op).Kind {
	case insn.Always:
		all = []int{far}
	case insn.Jump:
		all = []int{min(at+1, far)}
		if x.Off != 0 {
			all = append(all, max(at+1, far))
		}
	case insn.Wide:
		all = []int{at + 2}
	case insn.ALU, insn.Call, insn.Load, insn.Store, insn.Atomic:
		all = []int{at + 1}
	}
	var there []int
	for _, to := range all {
		if to >= 0 && to < len(l) {
			there = append(there, to)
		}
	}
	return there
}

// P16.1: each of all bytes, in the middle of a program, and at its ends, leads where its kind does.
func TestNextOfAllBytes(t *testing.T) {
	for op := range 256 {
		for _, off := range []int16{0, 1, 2, 3, -1, -2, -3, -4, math.MinInt16, math.MaxInt16} {
			x := api.Insn{Op: uint8(op), Off: off}
			for at := range 5 {
				l := one(mov, mov, mov, mov, mov)
				l[at] = x
				if got, want := cfg.Next(l, at), behind(l, at); !slices.Equal(got, want) {
					t.Errorf("%#x, %d, at %d: %d, not %d", op, off, at, got, want)
				}
			}
		}
	}
}

// P16.1: the example, and one of each kind by hand.
func TestNextByHand(t *testing.T) {
	for _, x := range []struct {
		name string
		l    []api.Insn
		at   int
		want []int
	}{
		{"mov of the example", one(mov, exit), 0, []int{1}},
		{"exit of the example", one(mov, exit), 1, nil},
		{"call", one(call, exit), 0, []int{1}},
		{"load", one(load, exit), 0, []int{1}},
		{"store", one(store, exit), 0, []int{1}},
		{"atomic", one(atomic, exit), 0, []int{1}},
		{"always further", one(always(1), mov, exit), 0, []int{2}},
		{"always back", one(mov, always(-2)), 1, []int{0}},
		{"always to itself", one(always(-1)), 0, []int{0}},
		{"always beyond the end", one(always(0)), 0, nil},
		{"always ahead of all", one(always(-2)), 0, nil},
		{"jump further", one(jump(1), mov, exit), 0, []int{1, 2}},
		{"jump to the next one", one(jump(0), mov, exit), 0, []int{1}},
		{"jump to itself", one(jump(-1), exit), 0, []int{0, 1}},
		{"jump back", one(mov, mov, jump(-3), exit), 2, []int{0, 3}},
		{"jump beyond the end", one(jump(1), exit), 0, []int{1}},
		{"jump ahead of all", one(jump(-2), exit), 0, []int{1}},
		{"jump at the end", one(mov, jump(-2)), 1, []int{0}},
		{"jump at the end, to behind it", one(mov, jump(0)), 1, nil},
		{"jump into a second", one(jump(1), wide, second, exit), 0, []int{1, 2}},
		{"jump of 32 bits, of a register", one(api.Insn{Op: 0xae, Off: 1}, mov, exit), 0, []int{1, 2}},
		{"wide", one(wide, second, exit), 0, []int{2}},
		{"wide without a second", one(wide, mov, exit), 0, []int{2}},
		{"wide near the end", one(wide, second), 0, nil},
		{"wide at the end", one(mov, wide), 1, nil},
		{"second", one(wide, second, exit), 1, nil},
		{"second without a wide", one(second, exit), 0, nil},
		{"bad", one(bad, exit), 0, nil},
		{"mov at the end", one(mov, mov), 1, nil},
	} {
		if got := cfg.Next(x.l, x.at); !slices.Equal(got, x.want) {
			t.Errorf("%s: %d, not %d", x.name, got, x.want)
		}
	}
}

// P16.1: a place that there isn't leads nowhere.
func TestNextOfNoPlace(t *testing.T) {
	for _, at := range []int{-1, 2, 3, -1 << 32, 1 << 32, math.MinInt, math.MaxInt, math.MaxInt - 1} {
		if got := cfg.Next(one(jump(-1), exit), at); len(got) != 0 {
			t.Errorf("%d: %d", at, got)
		}
	}
	for _, at := range []int{-1, 0, 1} {
		if got := cfg.Next(nil, at); len(got) != 0 {
			t.Errorf("of nothing, %d: %d", at, got)
		}
	}
}

// P16.1: what may be come to, and whether there is a loop, by hand.
func TestReachAndLoopsByHand(t *testing.T) {
	for _, x := range []struct {
		name  string
		l     []api.Insn
		reach string
		loops bool
	}{
		{"nothing", nil, "", false},
		{"no place", []api.Insn{}, "", false},
		{"exit", one(exit), "x", false},
		{"two exits", one(exit, exit), "x.", false},
		{"bad", one(bad, exit), "x.", false},
		{"wide and second", one(wide, second, exit), "xxx", false},
		{"a wide behind an exit", one(exit, wide, second, exit), "x...", false},
		{"a wide at the end", one(mov, wide), "xx", false},
		{"a wide and its second at the end", one(wide, second), "xx", false},
		{"a wide ahead of another kind", one(wide, mov, exit), "x.x", false},
		{"two seconds", one(wide, second, second, exit), "xxx.", false},
		{"a second behind a mov", one(mov, second, exit), "xx.", false},
		{"a second at 0", one(second, exit), "x.", false},
		{"a second behind an exit", one(exit, second, exit), "x..", false},
		{"a second that a jump goes to", one(always(1), wide, second, exit), "x.x.", false},
		{"either way", one(jump(1), exit, exit), "xxx", false},
		{"over one", one(always(1), mov, exit), "x.x", false},
		{"back", one(mov, always(-2)), "xx", true},
		{"to itself", one(always(-1)), "x", true},
		{"a jump to itself", one(jump(-1), exit), "xx", true},
		{"a loop that isn't come to", one(exit, always(-1)), "x.", false},
		{"a longer one that isn't come to", one(exit, mov, always(-2)), "x..", false},
		{"from one that isn't come to", one(mov, exit, always(-3)), "xx.", false},
		{"a loop behind others", one(mov, mov, mov, always(-2), exit), "xxxx.", true},
		{"out of a loop", one(mov, jump(-2), exit), "xxx", true},
		{"two ways that come together", one(jump(2), mov, always(1), mov, exit), "xxxxx", false},
		{"back, but in no loop", one(always(2), mov, exit, always(-3)), "xxxx", false},
		{"beyond the end", one(always(5), exit), "x.", false},
		{"two loops, one of them not come to", one(mov, jump(-2), exit, always(-1)), "xxx.", true},
	} {
		got := ""
		for _, may := range cfg.Reach(x.l) {
			if may {
				got += "x"
			} else {
				got += "."
			}
		}
		if got != x.reach {
			t.Errorf("Reach of %s: %q, not %q", x.name, got, x.reach)
		}
		if cfg.Loops(x.l) != x.loops {
			t.Errorf("Loops of %s: not %t", x.name, x.loops)
		}
	}
}

// steps tells of each two places whether there is a way of at least one step from one to the other.
func steps(l []api.Insn) [][]bool {
	way := make([][]bool, len(l))
	for at := range l {
		way[at] = make([]bool, len(l))
		for _, to := range behind(l, at) {
			way[at][to] = true
		}
	}
	for over := range l {
		for from := range l {
			for to := range l {
				way[from][to] = way[from][to] || way[from][over] && way[over][to]
			}
		}
	}
	return way
}

// some is a program by chance, in form or not.
func some(chance *rand.Rand, count int) []api.Insn {
	kinds := one(mov, mov, mov, exit, wide, second, bad, call, jump(0), jump(0), jump(0), always(0), always(0))
	l := make([]api.Insn, count)
	for at := range l {
		l[at] = kinds[chance.IntN(len(kinds))]
		if l[at].Op == jump(0).Op || l[at].Op == always(0).Op {
			l[at].Off = int16(chance.IntN(2*count+2) - count - 1)
		}
		if at > 0 && l[at-1] == wide && chance.IntN(4) > 0 {
			l[at] = second
		}
	}
	return l
}

// P16.1: Reach and Loops of programs by chance, held against all ways between two places.
func TestReachAndLoopsByChance(t *testing.T) {
	chance := rand.New(rand.NewPCG(16, 1))
	loops := 0
	for range 20000 {
		l := some(chance, 1+chance.IntN(12))
		way := steps(l)
		loop := false
		want := make([]bool, len(l))
		for at := range l {
			come := at == 0 || way[0][at]
			loop = loop || come && way[at][at]
			want[at] = want[at] || come
			if come && l[at] == wide && at+1 < len(l) && l[at+1] == second {
				want[at+1] = true
			}
		}
		if got := cfg.Reach(l); !slices.Equal(got, want) {
			t.Fatalf("%v: %t, not %t", l, got, want)
		}
		if got := cfg.Loops(l); got != loop {
			t.Fatalf("%v: %t", l, got)
		}
		if loop {
			loops++
		}
	}
	if loops < 2000 || loops > 18000 {
		t.Errorf("%d loops", loops)
	}
}

// P16.1: programs far beyond what may be in form are gone through, too.
func TestLongPrograms(t *testing.T) {
	const count = 300000
	l := slices.Repeat(one(jump(1)), count)
	for _, x := range []struct {
		last  api.Insn
		loops bool
	}{{exit, false}, {always(-1), true}, {always(math.MinInt16), true}} {
		l[count-1] = x.last
		if slices.Contains(cfg.Reach(l), false) || cfg.Loops(l) != x.loops {
			t.Errorf("%v", x)
		}
	}
}

// P16.1: Check's faults, in their order.
func TestCheck(t *testing.T) {
	long := slices.Repeat(one(mov), api.MaxInsns)
	long[api.MaxInsns-1] = exit
	for _, x := range []struct {
		name  string
		l     []api.Insn
		loops bool
		at    int
		err   api.Errno
	}{
		{"in form", one(mov, exit), false, 0, api.OK},
		{"in form, loops or not", one(mov, exit), true, 0, api.OK},
		{"as many as there may be", long, false, 0, api.OK},
		{"one more", append(one(mov), long...), true, 0, api.E2BIG},
		{"nothing", nil, true, 0, api.EINVAL},
		{"not in form", one(mov, bad, exit), true, 1, api.EINVAL},
		{"without an end", one(mov, mov), true, 1, api.EINVAL},
		{"form goes ahead of what isn't come to", one(exit, exit, bad, exit), true, 2, api.EINVAL},
		{"form goes ahead of loops", one(mov, always(-2), bad, exit), false, 2, api.EINVAL},
		{"not come to", one(exit, exit), true, 1, api.EINVAL},
		{"the first that isn't come to", one(always(2), mov, mov, mov, exit, exit), true, 1, api.EINVAL},
		{"the first, behind others", one(mov, always(1), mov, exit, exit), false, 2, api.EINVAL},
		{"not come to goes ahead of loops", one(mov, jump(-2), exit, exit), false, 3, api.EINVAL},
		{"a loop that mayn't be", one(mov, jump(-2), exit), false, 0, api.EINVAL},
		{"a loop that may be", one(mov, jump(-2), exit), true, 0, api.OK},
		{"a loop without an end that mayn't be", one(mov, mov, always(-2)), false, 0, api.EINVAL},
		{"a loop without an end that may be", one(mov, mov, always(-2)), true, 0, api.OK},
		{"a loop that isn't come to", one(exit, always(-1)), false, 1, api.EINVAL},
		{"wide and second", one(wide, second, exit), false, 0, api.OK},
		{"wide and second that aren't come to", one(always(2), wide, second, exit), false, 1, api.EINVAL},
	} {
		if at, err := cfg.Check(x.l, x.loops); at != x.at || err != x.err {
			t.Errorf("%s: %d, %d, not %d, %d", x.name, at, err, x.at, x.err)
		}
	}
}

// P16.2: arguments stay as they are, their spare room too.
func TestArgumentsStay(t *testing.T) {
	room := one(mov, jump(-2), wide, second, exit, bad, bad)
	l, as := room[:5], slices.Clone(room)
	for at := range l {
		cfg.Next(l, at)
	}
	cfg.Reach(l)
	cfg.Loops(l)
	cfg.Check(l, true)
	cfg.Check(l, false)
	if !slices.Equal(room, as) {
		t.Error(room)
	}
}

// P16.2: an answer doesn't change with the argument, nor with another answer.
func TestAnswersAreNew(t *testing.T) {
	l := one(jump(1), mov, exit)
	next, reach := cfg.Next(l, 0), cfg.Reach(l)
	for i := range next {
		next[i] = 7
	}
	for i := range reach {
		reach[i] = false
	}
	if got := cfg.Next(l, 0); !slices.Equal(got, []int{1, 2}) {
		t.Error(got)
	}
	if got := cfg.Reach(l); slices.Contains(got, false) {
		t.Error(got)
	}
	l[0] = exit
	if !slices.Equal(next, []int{7, 7}) || slices.Contains(reach, true) {
		t.Error(next, reach)
	}
}

package loader_test

import (
	"bytes"
	"math"
	"math/rand/v2"
	"slices"
	"testing"

	"tipstaff/api"
	"tipstaff/bmap"
	"tipstaff/canon"
	"tipstaff/digest"
	"tipstaff/insn"
	"tipstaff/lamport"
	"tipstaff/loader"
	"tipstaff/registry"
	"tipstaff/rights"
	"tipstaff/space"
	"tipstaff/token"
	"tipstaff/vm"
)

var end = []api.Insn{movTo(0, 0), {Op: 0x95}}

func movTo(dst uint8, imm int32) api.Insn { return api.Insn{Op: 0xb7, Dst: dst, Imm: imm} }

func call(helper int32) api.Insn { return api.Insn{Op: 0x85, Imm: helper} }

// wideMap names the map of a descriptor.
func wideMap(dst uint8, fd int32) []api.Insn {
	return []api.Insn{{Op: 0x18, Dst: dst, Src: 1, Imm: fd}, {}}
}

// naming is a program that names the maps of these descriptors, and ends.
func naming(fds ...int32) []api.Insn {
	var l []api.Insn
	for _, fd := range fds {
		l = append(l, wideMap(3, fd)...)
	}
	return append(l, end...)
}

// finding looks an entry up in the map of a descriptor (its key is 4 bytes of noughts), and counts in its value.
func finding(fd int32) []api.Insn {
	return slices.Concat(
		[]api.Insn{{Op: 0x62, Dst: 10, Off: -4}}, wideMap(1, fd),
		[]api.Insn{
			{Op: 0xbf, Dst: 2, Src: 10}, {Op: 0x07, Dst: 2, Imm: -4}, call(1),
			{Op: 0x15, Dst: 0, Off: 2}, movTo(6, 1), {Op: 0xdb, Dst: 0, Src: 6},
		}, end)
}

// looping has a loop, that is gone through three times.
func looping() []api.Insn {
	return slices.Concat([]api.Insn{movTo(6, 3), {Op: 0x17, Dst: 6, Imm: 1}, {Op: 0x55, Dst: 6, Off: -2}}, end)
}

func newMap(t *testing.T, kind int) *bmap.Map {
	t.Helper()
	s := bmap.Spec{Type: kind, Key: 8, Value: 8, Entries: 4}
	switch kind {
	case api.Array:
		s.Key = 4
	case api.Queue, api.Stack:
		s.Key = 0
	}
	m, err := bmap.New(s)
	if err != api.OK {
		t.Fatal(err)
	}
	return m
}

func frozen(t *testing.T, kind int) *bmap.Map {
	t.Helper()
	m := newMap(t, kind)
	if err := m.Freeze(); err != api.OK {
		t.Fatal(err)
	}
	return m
}

func tokenOf(t *testing.T, r rights.Rights) *token.Token {
	t.Helper()
	x, err := token.Root(space.New(), 0, r)
	if err != api.OK {
		t.Fatal(err)
	}
	return x
}

func signedRights() rights.Rights {
	r := rights.All()
	r.Signed = true
	return r
}

func registryOf(t *testing.T, seeds ...string) *registry.Registry {
	t.Helper()
	r := registry.New()
	for _, seed := range seeds {
		if err := r.Add(lamport.Key([]byte(seed))); err != api.OK {
			t.Fatal(err)
		}
	}
	return r
}

func sign(t *testing.T, seed string, a loader.Ask, maps []*bmap.Map) []byte {
	t.Helper()
	sum, err := loader.Sum(a, maps)
	if err != api.OK {
		t.Fatal(err)
	}
	return lamport.Sign([]byte(seed), sum)
}

func comesIn(t *testing.T, a loader.Ask, maps []*bmap.Map, x *token.Token, r *registry.Registry) *loader.Prog {
	t.Helper()
	p, err := loader.Load(a, maps, x, r)
	if err != api.OK || p == nil || !loader.Held(p) {
		t.Fatalf("%+v: %+v, %d", a, p, err)
	}
	return p
}

func staysOut(t *testing.T, want api.Errno, a loader.Ask, maps []*bmap.Map, x *token.Token, r *registry.Registry) {
	t.Helper()
	if p, err := loader.Load(a, maps, x, r); p != nil || err != want {
		t.Errorf("%+v, %v: %+v, %d, not %d", a, maps, p, err, want)
	}
}

// P21.1
func TestFds(t *testing.T) {
	for _, x := range []struct {
		fds, want []int32
		err       api.Errno
	}{
		{nil, nil, api.OK},
		{[]int32{7, 3, 7}, []int32{7, 3}, api.OK},
		{[]int32{math.MaxInt32, math.MinInt32, -1, 0, -1}, []int32{math.MaxInt32, math.MinInt32, -1, 0}, api.OK},
		{[]int32{4, 3, 2, 1}, []int32{4, 3, 2, 1}, api.OK},
		{[]int32{4, 3, 2, 1, 0}, nil, api.E2BIG},
		{[]int32{4, 3, 2, 1, 4, 2, 0}, nil, api.E2BIG},
	} {
		got, err := loader.Fds(loader.Ask{Insns: naming(x.fds...), Type: -1, Privileged: true, Signature: []byte{1}})
		if !slices.Equal(got, x.want) || err != x.err {
			t.Errorf("%d: %d, %d", x.fds, got, err)
		}
	}
	if got, err := loader.Fds(loader.Ask{}); len(got) != 0 || err != api.OK {
		t.Error(got, err)
	}
}

// P21.1: what is signed is the instructions with slots, and what the maps have; nothing else of an Ask.
func TestSum(t *testing.T) {
	a, b := newMap(t, api.Array), newMap(t, api.Hash)
	b.Update([]byte("12345678"), []byte("abcdefgh"), 0)
	slots := slices.Concat(wideMap(3, 0), wideMap(3, 1), wideMap(3, 0), end)
	first, second := a.Sum(), b.Sum()
	want := digest.Joined([][]byte{insn.Encode(slots), first[:], second[:]})
	for _, ask := range []loader.Ask{
		{Insns: naming(7, 3, 7)},
		{Insns: naming(0, 9, 0), Type: 77, Privileged: true, Signature: []byte{1}},
		{Insns: naming(1, 0, 1), Type: -1},
	} {
		if got, err := loader.Sum(ask, []*bmap.Map{a, b}); got != want || err != api.OK {
			t.Errorf("%+v: %x, %d", ask, got, err)
		}
	}
	ask := loader.Ask{Insns: naming(7, 3, 7)}
	other := [][32]byte{sumOf(t, ask, b, a), sumOf(t, ask, a, a), sumOf(t, loader.Ask{Insns: naming(3, 7, 7)}, a, b)}
	a.Update(make([]byte, 4), []byte("87654321"), 0)
	other = append(other, sumOf(t, ask, a, b))
	b.Delete([]byte("12345678"))
	other = append(other, sumOf(t, ask, a, b), want)
	for i, x := range other {
		if slices.Contains(other[:i], x) {
			t.Errorf("%d: again", i)
		}
	}
	if got := sumOf(t, loader.Ask{}); got != canon.Sum(nil, nil) {
		t.Errorf("of nothing: %x", got)
	}
}

func sumOf(t *testing.T, a loader.Ask, maps ...*bmap.Map) [32]byte {
	t.Helper()
	sum, err := loader.Sum(a, maps)
	if err != api.OK {
		t.Fatal(err)
	}
	return sum
}

// P21.1
func TestSumRefuses(t *testing.T) {
	m := newMap(t, api.Array)
	for _, x := range []struct {
		fds  []int32
		maps []*bmap.Map
		want api.Errno
	}{
		{[]int32{1, 2, 3, 4, 5}, []*bmap.Map{m, m, m, m, m}, api.E2BIG},
		{[]int32{1, 2, 3, 4, 5}, nil, api.E2BIG},
		{nil, []*bmap.Map{m}, api.EINVAL},
		{[]int32{1}, nil, api.EINVAL},
		{[]int32{1}, []*bmap.Map{nil}, api.EINVAL},
		{[]int32{1, 2, 1}, []*bmap.Map{m}, api.EINVAL},
		{[]int32{1, 2, 1}, []*bmap.Map{m, m, m}, api.EINVAL},
		{[]int32{1, 2, 1}, []*bmap.Map{m, nil}, api.EINVAL},
		{[]int32{1, 2, 1}, []*bmap.Map{nil, m}, api.EINVAL},
	} {
		a := loader.Ask{Insns: naming(x.fds...)}
		if sum, err := loader.Sum(a, x.maps); sum != [32]byte{} || err != x.want {
			t.Errorf("%d: %x, %d, not %d", x.fds, sum, err, x.want)
		}
		staysOut(t, x.want, a, x.maps, tokenOf(t, rights.All()), nil)
	}
}

// P21.1: what is there then.
func TestLoad(t *testing.T) {
	m, other := newMap(t, api.Array), frozen(t, api.Queue)
	x := tokenOf(t, rights.All())
	for kind := range 4 {
		for _, privileged := range []bool{false, true} {
			a := loader.Ask{Type: kind, Insns: slices.Concat(wideMap(4, 9), finding(5)), Privileged: privileged}
			p := comesIn(t, a, []*bmap.Map{other, m}, x, nil)
			want := slices.Concat(wideMap(4, 0), finding(1))
			if p.Type != kind || !slices.Equal(p.Insns, want) || !slices.Equal(p.Maps, []*bmap.Map{other, m}) ||
				p.Sum != sumOf(t, a, other, m) || p.Privileged != privileged || p.Token != x {
				t.Errorf("%+v", p)
			}
		}
	}
	if p := comesIn(t, loader.Ask{Insns: end}, nil, x, nil); len(p.Maps) != 0 || p.Sum != sumOf(t, loader.Ask{Insns: end}) {
		t.Errorf("%+v", p)
	}
	// One map by two slots.
	comesIn(t, loader.Ask{Insns: naming(3, 4)}, []*bmap.Map{m, m}, x, nil)
}

// P21.1: a type is asked of the token.
func TestTypeOfProgram(t *testing.T) {
	x := tokenOf(t, rights.Rights{Programs: 5})
	for kind, want := range map[int]api.Errno{
		0: api.OK, 1: api.EPERM, 2: api.OK, 3: api.EPERM, 4: api.EPERM, 15: api.EPERM,
		16: api.EINVAL, -1: api.EINVAL, math.MaxInt: api.EINVAL, math.MinInt: api.EINVAL, 1 << 32: api.EINVAL,
	} {
		if _, err := loader.Load(loader.Ask{Insns: end, Type: kind}, nil, x, nil); err != want {
			t.Errorf("%d: %d, not %d", kind, err, want)
		}
	}
}

// P21.1: the helpers that are called are asked of the token, the lowest first; the maps in their order.
func TestHelpersAndMaps(t *testing.T) {
	// None of these is safe, so that what is allowed is told from what is not by EACCES.
	for bit, helper := range []int32{1, 2, 3, 5, 7, 87, 88, 89} {
		r := rights.All()
		l := slices.Concat([]api.Insn{call(helper)}, []api.Insn{{Op: 0xbf, Dst: 0, Src: 3}}, end)
		staysOut(t, api.EACCES, loader.Ask{Insns: l}, nil, tokenOf(t, r), nil)
		r.Helpers &^= 1 << bit
		staysOut(t, api.EPERM, loader.Ask{Insns: l}, nil, tokenOf(t, r), nil)
	}
	few := tokenOf(t, rights.Rights{Programs: 1, Helpers: 16, Maps: 0x3e})
	of := func(helpers ...int32) loader.Ask {
		var l []api.Insn
		for _, h := range helpers {
			l = append(l, call(h))
		}
		return loader.Ask{Insns: append(l, end...)}
	}
	comesIn(t, of(7, 7), nil, few, nil)
	staysOut(t, api.EPERM, of(7, 100, 5), nil, few, nil)
	staysOut(t, api.EINVAL, of(7, 5, 4), nil, few, nil)
	staysOut(t, api.EINVAL, of(5, -1), nil, few, nil)
	staysOut(t, api.EINVAL, of(7, math.MaxInt32), nil, few, nil)
	for kind := range api.MapTypes {
		m := newMap(t, kind)
		r := rights.Rights{Programs: 1, Maps: 0x3f}
		comesIn(t, loader.Ask{Insns: naming(2)}, []*bmap.Map{m}, tokenOf(t, r), nil)
		r.Maps &^= 1 << kind
		staysOut(t, api.EPERM, loader.Ask{Insns: naming(2)}, []*bmap.Map{m}, tokenOf(t, r), nil)
		// A map that is there is asked for, wherever it is named.
		staysOut(t, api.EPERM, loader.Ask{Insns: naming(2, 1)}, []*bmap.Map{newMap(t, (kind+1)%6), m}, tokenOf(t, r), nil)
	}
}

// P21.1: a program is checked as a privileged one only if it asks for that, and may.
func TestPrivilege(t *testing.T) {
	may := tokenOf(t, rights.All())
	r := rights.All()
	r.Privileged = false
	mayNot := tokenOf(t, r)
	staysOut(t, api.EINVAL, loader.Ask{Insns: looping()}, nil, may, nil)
	staysOut(t, api.EINVAL, loader.Ask{Insns: looping()}, nil, mayNot, nil)
	staysOut(t, api.EPERM, loader.Ask{Insns: looping(), Privileged: true}, nil, mayNot, nil)
	staysOut(t, api.EPERM, loader.Ask{Insns: end, Privileged: true}, nil, mayNot, nil)
	comesIn(t, loader.Ask{Insns: looping(), Privileged: true}, nil, may, nil)
	comesIn(t, loader.Ask{Insns: end}, nil, mayNot, nil)
}

// P21.1: the check knows the maps' specs, and which are frozen.
func TestChecked(t *testing.T) {
	x := tokenOf(t, rights.All())
	m := newMap(t, api.Array)
	a := loader.Ask{Insns: finding(3)}
	comesIn(t, a, []*bmap.Map{m}, x, nil)
	m.Freeze()
	staysOut(t, api.EACCES, a, []*bmap.Map{m}, x, nil)
	staysOut(t, api.EACCES, a, []*bmap.Map{newMap(t, api.Queue)}, x, nil)
	staysOut(t, api.EACCES, a, []*bmap.Map{newMap(t, api.Hash)}, x, nil)
	staysOut(t, api.EACCES, loader.Ask{Insns: end[1:]}, nil, x, nil)
	staysOut(t, api.EINVAL, loader.Ask{}, nil, x, nil)
	staysOut(t, api.EINVAL, loader.Ask{Insns: end[:1]}, nil, x, nil)
	staysOut(t, api.E2BIG, loader.Ask{Insns: slices.Repeat(end, 129)}, nil, x, nil)
	comesIn(t, loader.Ask{Insns: slices.Concat(slices.Repeat(end[:1], 255), end[1:])}, nil, x, nil)
}

// asked is all that Load is given.
type asked struct {
	a    loader.Ask
	maps []*bmap.Map
	x    *token.Token
	r    *registry.Registry
}

// fault spoils something, and is told by err.
type fault struct {
	name string
	err  api.Errno
	do   func(*asked)
}

func inFront(w *asked, l ...api.Insn) { w.a.Insns = append(l, w.a.Insns...) }

// less gives another token, with less rights.
func less(w *asked, take func(*rights.Rights)) {
	if w.x != nil {
		x := *w.x
		take(&x.Rights)
		w.x = &x
	}
}

// faults stand in the order in which they are looked for; those of one row are one step.
func faults(t *testing.T) [][]fault {
	return [][]fault{
		{{"no token", api.EPERM, func(w *asked) { w.x = nil }}},
		{
			{"no right to the type", api.EPERM, func(w *asked) { w.a.Type = 9 }},
			{"no such type", api.EINVAL, func(w *asked) { w.a.Type = 16 }},
		},
		{{"five maps", api.E2BIG, func(w *asked) { inFront(w, naming(21, 22, 23, 24)[:8]...) }}},
		{
			{"a map too many", api.EINVAL, func(w *asked) { w.maps = append(w.maps, frozen(t, 0)) }},
			{"a nil map", api.EINVAL, func(w *asked) { w.maps = []*bmap.Map{nil} }},
		},
		{{"no such helper, of a low number", api.EINVAL, func(w *asked) { inFront(w, call(-3)) }}},
		{{"no right to the helper", api.EPERM, func(w *asked) { less(w, func(r *rights.Rights) { r.Helpers = 0 }) }}},
		{{"no such helper, of a great number", api.EINVAL, func(w *asked) { inFront(w, call(90)) }}},
		{{"no right to the map", api.EPERM, func(w *asked) { less(w, func(r *rights.Rights) { r.Maps = 0 }) }}},
		{{"no privilege", api.EPERM, func(w *asked) {
			w.a.Privileged = true
			less(w, func(r *rights.Rights) { r.Privileged = false })
		}}},
		{{"not in form", api.EINVAL, func(w *asked) { inFront(w, api.Insn{Op: 0xff}) }}},
		{{"not safe", api.EACCES, func(w *asked) { inFront(w, api.Insn{Op: 0xbf, Dst: 4, Src: 9}) }}},
		{{"not frozen", api.EPERM, func(w *asked) {
			for i := range w.maps {
				w.maps[i] = newMap(t, api.Hash)
			}
		}}},
		{{"no registry", api.EINVAL, func(w *asked) { w.r = nil }}},
		{{"a short signature", api.EINVAL, func(w *asked) { w.a.Signature = w.a.Signature[1:] }}},
		{{"no key that fits", api.EKEYREJECTED, func(w *asked) { w.a.Signature[5] ^= 1 }}},
	}
}

// right is an Ask under a token that wants signatures, of which nothing is wrong.
func right(t *testing.T) *asked {
	t.Helper()
	w := &asked{maps: []*bmap.Map{frozen(t, api.Hash)}, x: tokenOf(t, signedRights()), r: registryOf(t, "j", "k")}
	w.a = loader.Ask{Type: 3, Insns: slices.Concat([]api.Insn{call(7)}, naming(6))}
	w.a.Signature = sign(t, "k", w.a, w.maps)
	return w
}

// P21.1: each error alone, and each two: the first one in order is told; and no key is spent.
func TestOrderOfErrors(t *testing.T) {
	rows := faults(t)
	for i, row := range rows {
		for _, first := range row {
			seconds := []fault{{"nothing else", api.OK, func(*asked) {}}}
			for _, others := range rows[i+1:] {
				seconds = append(seconds, others...)
			}
			for _, second := range seconds {
				w := right(t)
				keys := w.r
				second.do(w)
				first.do(w)
				if p, err := loader.Load(w.a, w.maps, w.x, w.r); p != nil || err != first.err {
					t.Errorf("%s and %s: %+v, %d, not %d", first.name, second.name, p, err, first.err)
				}
				if !keys.Has(lamport.Key([]byte("j"))) || !keys.Has(lamport.Key([]byte("k"))) {
					t.Errorf("%s and %s: a key is spent", first.name, second.name)
				}
			}
		}
	}
	w := right(t)
	comesIn(t, w.a, w.maps, w.x, w.r)
}

// P21.3: one signature lets one program in, once, and what it was given for alone.
func TestSigned(t *testing.T) {
	w := right(t)
	p := comesIn(t, w.a, w.maps, w.x, w.r)
	if w.r.Has(lamport.Key([]byte("k"))) || !w.r.Has(lamport.Key([]byte("j"))) || w.r.Len() != 2 || p.Sum != sumOf(t, w.a, w.maps...) {
		t.Error("which key is spent?")
	}
	for range 2 {
		staysOut(t, api.EKEYREJECTED, w.a, w.maps, w.x, w.r)
	}
	// By another key the same program comes in once more.
	w.a.Signature = sign(t, "j", w.a, w.maps)
	comesIn(t, w.a, w.maps, w.x, w.r)
	staysOut(t, api.EKEYREJECTED, w.a, w.maps, w.x, w.r)
}

// P21.3: what was signed is neither other instructions, nor maps that have other things.
func TestSignedForAnother(t *testing.T) {
	w := right(t)
	changed := w.a
	changed.Insns = slices.Clone(w.a.Insns)
	changed.Insns[3].Imm++
	staysOut(t, api.EKEYREJECTED, changed, w.maps, w.x, w.r)
	other := newMap(t, api.Hash)
	other.Update(make([]byte, 8), make([]byte, 8), 0)
	other.Freeze()
	staysOut(t, api.EKEYREJECTED, w.a, []*bmap.Map{other}, w.x, w.r)
	// Another descriptor, and another map that has the same, are the same to who signs.
	likewise := w.a
	likewise.Insns = slices.Concat([]api.Insn{call(7)}, naming(13))
	comesIn(t, likewise, []*bmap.Map{frozen(t, api.Hash)}, w.x, w.r)
	staysOut(t, api.EKEYREJECTED, w.a, w.maps, w.x, w.r)
}

// P21.3: all maps are frozen, not the first one alone.
func TestSignedMapsAreFrozen(t *testing.T) {
	for open := range 4 {
		w := right(t)
		w.maps = nil
		for i := range 4 {
			if i == open {
				w.maps = append(w.maps, newMap(t, api.Array))
			} else {
				w.maps = append(w.maps, frozen(t, api.Array))
			}
		}
		w.a.Insns = naming(1, 2, 3, 4)
		w.a.Signature = sign(t, "k", w.a, w.maps)
		staysOut(t, api.EPERM, w.a, w.maps, w.x, w.r)
		w.maps[open].Freeze()
		p := comesIn(t, w.a, w.maps, w.x, w.r)
		for _, m := range p.Maps {
			if !m.Frozen() {
				t.Error("not frozen")
			}
		}
	}
}

// P21.1: without Signed the signature isn't looked at, and no key is spent; maps needn't be frozen.
func TestUnsigned(t *testing.T) {
	w := right(t)
	w.x = tokenOf(t, rights.All())
	comesIn(t, w.a, w.maps, w.x, w.r)
	w.maps = []*bmap.Map{newMap(t, api.Hash)}
	for _, signature := range [][]byte{nil, {1}, w.a.Signature, make([]byte, 2048)} {
		w.a.Signature = signature
		comesIn(t, w.a, w.maps, w.x, w.r)
		comesIn(t, w.a, w.maps, w.x, nil)
	}
	if !w.r.Has(lamport.Key([]byte("k"))) || !w.r.Has(lamport.Key([]byte("j"))) {
		t.Error("a key is spent")
	}
}

// P21.2: of each thing that a program does, its token must have the right.
func TestHeld(t *testing.T) {
	least := rights.Rights{Programs: 4, Maps: 1, Helpers: 1 | 16, Privileged: true}
	x := tokenOf(t, least)
	a := loader.Ask{Type: 2, Insns: append([]api.Insn{call(7)}, finding(8)...), Privileged: true}
	p := comesIn(t, a, []*bmap.Map{newMap(t, api.Array)}, x, nil)
	for _, take := range []func(*rights.Rights){
		func(r *rights.Rights) { r.Programs = 0xfffb },
		func(r *rights.Rights) { r.Maps = 0xfffe },
		func(r *rights.Rights) { r.Helpers = 0xfffe },
		func(r *rights.Rights) { r.Helpers = 0xffef },
		func(r *rights.Rights) { r.Privileged = false },
	} {
		x.Rights = rights.All()
		if !loader.Held(p) {
			t.Error("not held by all rights")
		}
		take(&x.Rights)
		if loader.Held(p) {
			t.Errorf("held by %+v", x.Rights)
		}
	}
	x.Rights = least
	if !loader.Held(p) {
		t.Error("not held by what it needs alone")
	}
}

// P21.1: programs that Load hasn't made.
func TestHeldMadeByHand(t *testing.T) {
	x := tokenOf(t, rights.All())
	for i, y := range []struct {
		p    *loader.Prog
		want bool
	}{
		{nil, false},
		{&loader.Prog{}, false},
		{&loader.Prog{Privileged: true}, false},
		{&loader.Prog{Token: x}, true},
		{&loader.Prog{Token: x, Type: 3, Privileged: true, Insns: []api.Insn{call(89), call(1)}}, true},
		{&loader.Prog{Token: x, Insns: []api.Insn{call(1), call(4)}}, false},
		{&loader.Prog{Token: x, Type: 4}, false},
		{&loader.Prog{Token: x, Type: -1}, false},
		{&loader.Prog{Token: x, Maps: []*bmap.Map{newMap(t, api.Prefix), newMap(t, api.Hash)}}, true},
		{&loader.Prog{Token: &token.Token{Rights: rights.Rights{Programs: 1, Maps: 2}}, Maps: []*bmap.Map{newMap(t, api.Hash), newMap(t, api.LRU)}}, false},
	} {
		if got := loader.Held(y.p); got != y.want {
			t.Errorf("%d: %t", i, got)
		}
	}
}

// P21.2: what a program does under a token that was derived, each of the chain may do.
func TestHeldByTheChain(t *testing.T) {
	chance := rand.New(rand.NewPCG(21, 2))
	tree := space.New()
	some := 0
	for range 400 {
		x, _ := token.Root(tree, 0, rights.All())
		for range 3 {
			r := rights.Rights{
				Commands: x.Rights.Commands, Programs: x.Rights.Programs & few(chance), Maps: x.Rights.Maps & few(chance),
				Helpers: x.Rights.Helpers & few(chance), Privileged: x.Rights.Privileged && chance.IntN(4) > 0,
			}
			var err api.Errno
			if x, err = token.Derive(tree, x, 0, r); err != api.OK {
				t.Fatal(err)
			}
		}
		a := loader.Ask{Type: chance.IntN(4), Insns: finding(0), Privileged: chance.IntN(2) == 0}
		p, err := loader.Load(a, []*bmap.Map{newMap(t, api.Array)}, x, nil)
		if err != api.OK {
			continue
		}
		some++
		for _, up := range token.Chain(x) {
			q := *p
			q.Token = up
			if !loader.Held(&q) {
				t.Errorf("%+v may what %+v mayn't", x.Rights, up.Rights)
			}
		}
	}
	if some < 20 {
		t.Errorf("%d alone came in", some)
	}
}

// few has most of the bits.
func few(chance *rand.Rand) uint16 {
	return uint16(chance.Uint32() | chance.Uint32() | chance.Uint32())
}

// P21.4: what came in runs without a fault, on maps that change.
func TestRunsWithoutFault(t *testing.T) {
	x := tokenOf(t, rights.All())
	m := newMap(t, api.Array)
	for _, a := range []loader.Ask{{Insns: finding(3)}, {Insns: looping(), Privileged: true}, {Insns: finding(9), Privileged: true}} {
		fds, _ := loader.Fds(a)
		p := comesIn(t, a, slices.Repeat([]*bmap.Map{m}, len(fds)), x, nil)
		for fuel := range 40 {
			r := vm.Run(p.Insns, vm.World{Maps: p.Maps, Fuel: fuel})
			if r.Err != api.OK && r.Err != api.ETIME || fuel == 39 && r.Err != api.OK {
				t.Errorf("%+v", r)
			}
			m.Update(make([]byte, 4), bytes.Repeat([]byte{byte(fuel)}, 8), 0)
		}
	}
}

// P21.5: what is handed in stays, its spare room too, and isn't kept; answers are new memory.
func TestArgumentsStay(t *testing.T) {
	w := right(t)
	whole := append(slices.Clone(w.a.Insns), naming(40)...)
	kept := slices.Clone(whole)
	w.a.Insns = whole[:len(w.a.Insns)]
	signature := slices.Clone(w.a.Signature)
	spare := frozen(t, api.Array)
	allMaps := []*bmap.Map{w.maps[0], spare}
	before := *w.x
	fds, _ := loader.Fds(w.a)
	p := comesIn(t, w.a, allMaps[:1], w.x, w.r)
	if !slices.Equal(whole, kept) || !bytes.Equal(signature, w.a.Signature) || allMaps[1] != spare || *w.x != before {
		t.Error("an argument changed")
	}
	if again, _ := loader.Fds(w.a); !slices.Equal(fds, again) || &fds[0] == &again[0] {
		t.Error(fds, again)
	}
	insns, maps := slices.Clone(p.Insns), slices.Clone(p.Maps)
	clear(whole)
	clear(allMaps)
	clear(w.a.Signature)
	if !slices.Equal(p.Insns, insns) || !slices.Equal(p.Maps, maps) {
		t.Error("an argument is kept")
	}
	// Two programs of one Ask share nothing.
	x := tokenOf(t, rights.All())
	a := loader.Ask{Insns: naming(3)}
	one, two := comesIn(t, a, []*bmap.Map{spare}, x, nil), comesIn(t, a, []*bmap.Map{spare}, x, nil)
	clear(one.Insns)
	clear(one.Maps)
	if !slices.Equal(two.Insns, naming(0)) || two.Maps[0] != spare {
		t.Error("shared")
	}
}

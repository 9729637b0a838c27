package token_test

import (
	"math"
	"math/rand/v2"
	"slices"
	"testing"

	"tipstaff/api"
	"tipstaff/rights"
	"tipstaff/space"
	"tipstaff/token"
)

// tree has the namespaces 0, 1 within it, 2 and 3 within 1, 4 within 2, and 5 within 0.
func tree(t *testing.T) *space.Tree {
	t.Helper()
	x := space.New()
	for _, up := range []int{0, 1, 1, 2, 0} {
		if _, e := x.Make(up); e != api.OK {
			t.Fatalf("Make(%d): %d", up, e)
		}
	}
	return x
}

func root(t *testing.T, x *space.Tree, at int, r rights.Rights) *token.Token {
	t.Helper()
	k, e := token.Root(x, at, r)
	if e != api.OK || k == nil || *k != (token.Token{Space: at, Rights: r}) {
		t.Fatalf("Root(%d, %+v): %+v, %d", at, r, k, e)
	}
	return k
}

func derived(t *testing.T, x *space.Tree, up *token.Token, at int, r rights.Rights) *token.Token {
	t.Helper()
	ahead := *up
	k, e := token.Derive(x, up, at, r)
	if e != api.OK || k == nil || *k != (token.Token{Space: at, Rights: r, Up: up}) {
		t.Fatalf("Derive(%d, %+v): %+v, %d", at, r, k, e)
	}
	if *up != ahead || k == up {
		t.Errorf("Derive changed what it derived from: %+v", up)
	}
	return k
}

// chained is a token whose chain has so many of these rights in that namespace, made by hand.
func chained(n, at int, r rights.Rights) *token.Token {
	var x *token.Token
	for range n {
		x = &token.Token{Space: at, Rights: r, Up: x}
	}
	return x
}

// far are numbers of no namespace of the tree.
func far() []int {
	return []int{-1, 6, 7, 8, 255, 1 << 32, 1<<32 + 1, math.MaxInt, math.MinInt}
}

// beyond are rights that aren't within All.
func beyond() []rights.Rights {
	var all []rights.Rights
	for bit := range 16 {
		b := uint16(1) << bit
		if bit >= 8 {
			all = append(all, rights.Rights{Commands: b}, rights.Rights{Helpers: b})
		}
		if bit >= 4 {
			all = append(all, rights.Rights{Programs: b})
		}
		if bit >= 6 {
			all = append(all, rights.Rights{Maps: b})
		}
	}
	return all
}

func noRoot(t *testing.T, x *space.Tree, at int, r rights.Rights, err api.Errno) {
	t.Helper()
	if k, e := token.Root(x, at, r); k != nil || e != err {
		t.Errorf("Root(%d, %+v): %+v, %d, not %d", at, r, k, e, err)
	}
}

func underived(t *testing.T, x *space.Tree, up *token.Token, at int, r rights.Rights, err api.Errno) {
	t.Helper()
	if k, e := token.Derive(x, up, at, r); k != nil || e != err {
		t.Errorf("Derive(%d, %+v) of %+v: %+v, %d, not %d", at, r, up, k, e, err)
	}
}

// P12.1
func TestRoot(t *testing.T) {
	x := tree(t)
	signed := rights.All()
	signed.Signed = true
	for at := range 6 {
		for _, r := range []rights.Rights{rights.All(), {}, signed, {Signed: true}, {Privileged: true}, {Commands: 0x80, Maps: 0x20}} {
			if k := root(t, x, at, r); !token.Sound(x, k) {
				t.Errorf("Root(%d, %+v) isn't sound", at, r)
			}
		}
	}
	if x.Len() != 6 {
		t.Errorf("%d namespaces behind it", x.Len())
	}
}

// P12.1: errors, and their order.
func TestRootRefuses(t *testing.T) {
	x := tree(t)
	for _, r := range beyond() {
		noRoot(t, x, 0, r, api.EPERM)
		noRoot(t, x, 5, r, api.EPERM)
		noRoot(t, x, 6, r, api.ENOENT)
		noRoot(t, nil, 0, r, api.EINVAL)
	}
	for _, at := range far() {
		noRoot(t, x, at, rights.All(), api.ENOENT)
		noRoot(t, nil, at, rights.All(), api.EINVAL)
	}
	noRoot(t, nil, 0, rights.Rights{}, api.EINVAL)
	noRoot(t, new(space.Tree), 0, rights.All(), api.ENOENT)
}

// P12.1: in the namespace itself, and in each within it, but in no other one.
func TestDeriveWhere(t *testing.T) {
	x := tree(t)
	for from := range 6 {
		up := root(t, x, from, rights.All())
		for at := range 6 {
			if slices.Contains(x.Path(at), from) {
				derived(t, x, up, at, rights.All())
			} else {
				underived(t, x, up, at, rights.All(), api.EPERM)
			}
		}
	}
}

// P12.1: no more rights than it has from which it is derived.
func TestDeriveWhat(t *testing.T) {
	x := tree(t)
	has := rights.Rights{Commands: 0x55, Programs: 5, Maps: 0x15, Helpers: 0xaa}
	up := root(t, x, 1, has)
	derived(t, x, up, 1, has)
	for bit := range 16 {
		for i := range 4 {
			r, b := has, uint16(1)<<bit
			part := []*uint16{&r.Commands, &r.Programs, &r.Maps, &r.Helpers}[i]
			if *part&b != 0 {
				*part ^= b
				derived(t, x, up, 2, r)
			} else {
				*part ^= b
				underived(t, x, up, 2, r, api.EPERM)
			}
		}
	}
	more := has
	more.Privileged = true
	underived(t, x, up, 1, more, api.EPERM)
	less := has
	less.Signed = true
	under := derived(t, x, up, 1, less)
	underived(t, x, under, 1, has, api.EPERM)
	derived(t, x, under, 1, less)
	all := root(t, x, 1, rights.All())
	derived(t, x, derived(t, x, all, 1, more), 1, has)
}

// P12.1: what counts is that token alone from which it is derived, as it is now.
func TestDeriveFromMadeByHand(t *testing.T) {
	x := tree(t)
	wide := rights.Rights{Commands: 0xffff, Programs: 0xffff, Maps: 0xffff, Helpers: 0xffff}
	up := &token.Token{Space: 1, Rights: wide, Up: &token.Token{Space: 77}}
	derived(t, x, up, 3, wide)
	underived(t, x, up, 0, wide, api.EPERM)
	up.Space = 77
	underived(t, x, up, 3, wide, api.EPERM)
	underived(t, x, up, 77, wide, api.ENOENT)
	up.Space, up.Rights.Commands = 0, 1
	underived(t, x, up, 3, wide, api.EPERM)
	derived(t, x, up, 3, rights.Rights{Commands: 1})
}

// P12.1: a chain of 4, and not one more.
func TestDeriveToTheDepth(t *testing.T) {
	x := tree(t)
	k := root(t, x, 0, rights.All())
	for n := 2; n <= 4; n++ {
		k = derived(t, x, k, 0, rights.All())
		if got := len(token.Chain(k)); got != n {
			t.Errorf("a chain of %d, not %d", got, n)
		}
	}
	underived(t, x, k, 0, rights.All(), api.E2BIG)
	for n := 1; n <= 10; n++ {
		up := chained(n, 0, rights.All())
		if n < 4 {
			derived(t, x, up, 4, rights.All())
		} else {
			underived(t, x, up, 4, rights.All(), api.E2BIG)
		}
	}
}

// P12.1: the order of errors.
func TestDeriveOrderOfErrors(t *testing.T) {
	x := tree(t)
	few := rights.Rights{Commands: 1}
	full := chained(4, 1, few)
	underived(t, nil, full, 9, rights.All(), api.EINVAL)
	underived(t, x, nil, 9, rights.All(), api.EINVAL)
	underived(t, nil, nil, 9, rights.All(), api.EINVAL)
	underived(t, nil, chained(1, 0, rights.All()), 0, few, api.EINVAL)
	underived(t, x, nil, 0, few, api.EINVAL)
	for _, at := range far() {
		underived(t, x, full, at, rights.All(), api.ENOENT)
		underived(t, x, full, at, few, api.ENOENT)
		underived(t, nil, full, at, few, api.EINVAL)
		underived(t, x, nil, at, few, api.EINVAL)
	}
	underived(t, x, full, 0, few, api.EPERM)
	underived(t, x, full, 5, rights.All(), api.EPERM)
	underived(t, x, full, 1, rights.All(), api.EPERM)
	underived(t, x, full, 1, few, api.E2BIG)
	underived(t, new(space.Tree), full, 0, few, api.ENOENT)
}

// P12.1: from the root to the token itself, one by one.
func TestChain(t *testing.T) {
	if c := token.Chain(nil); len(c) != 0 {
		t.Errorf("of nil: %v", c)
	}
	for _, n := range []int{1, 2, 3, 4, 5, 6, 7, 8, 100, 1 << 16} {
		x := chained(n, 0, rights.Rights{})
		c := token.Chain(x)
		if len(c) != n || c[0].Up != nil || c[n-1] != x {
			t.Fatalf("a chain of %d: %d", n, len(c))
		}
		for i := 1; i < n; i++ {
			if c[i].Up != c[i-1] {
				t.Fatalf("a chain of %d: at %d", n, i)
			}
		}
	}
}

// P12.1: a chain of any length is sound, if each is within the one ahead.
func TestSound(t *testing.T) {
	x := tree(t)
	for n := 1; n < 12; n++ {
		if !token.Sound(x, chained(n, 3, rights.All())) {
			t.Errorf("a chain of %d", n)
		}
	}
	if !token.Sound(x, chained(1<<16, 3, rights.All())) {
		t.Error("a long chain")
	}
	if token.Sound(x, nil) || token.Sound(nil, nil) {
		t.Error("of no token")
	}
	if token.Sound(nil, chained(1, 0, rights.All())) || token.Sound(new(space.Tree), chained(1, 0, rights.All())) {
		t.Error("in no tree")
	}
}

// P12.1: a namespace that isn't there, or that is outside.
func TestSoundWhere(t *testing.T) {
	x := tree(t)
	for _, n := range []int{1, 2, 5} {
		for i := range n {
			for _, at := range append(far(), 0, 1, 2, 3, 4, 5) {
				k := chained(n, 1, rights.All())
				token.Chain(k)[i].Space = at
				// Within those behind it, if there are any; inside those ahead.
				want := at == 1 || i == n-1 && x.Inside(at, 1) || i == 0 && at == 0
				if n == 1 {
					want = at >= 0 && at < 6
				}
				if got := token.Sound(x, k); got != want {
					t.Errorf("%d of %d in namespace %d: %v", i, n, at, got)
				}
			}
		}
	}
}

// P12.1: rights beyond those of the one ahead, or the root's beyond All.
func TestSoundWhat(t *testing.T) {
	x := tree(t)
	for _, n := range []int{1, 2, 5} {
		for i := range n {
			k := chained(n, 1, rights.All())
			one := token.Chain(k)[i]
			one.Rights.Signed = true
			if got := token.Sound(x, k); got != (i == n-1) {
				t.Errorf("%d of %d is signed: %v", i, n, got)
			}
			one.Rights = rights.All()
			one.Rights.Privileged = false
			if got := token.Sound(x, k); got != (i == n-1) {
				t.Errorf("%d of %d isn't privileged: %v", i, n, got)
			}
			for _, r := range beyond() {
				one.Rights = r
				if token.Sound(x, k) {
					t.Errorf("%d of %d: %+v", i, n, r)
				}
			}
		}
		for _, r := range beyond() {
			if token.Sound(x, chained(n, 0, r)) {
				t.Errorf("all of %d: %+v", n, r)
			}
		}
	}
}

// P12.1: all that is sound is looked at now: a token that changed behind its making counts as it is.
func TestSoundBehindChanges(t *testing.T) {
	x := tree(t)
	a := root(t, x, 1, rights.All())
	b := derived(t, x, a, 2, rights.All())
	c := derived(t, x, b, 4, rights.All())
	for _, change := range []func(){
		func() { a.Rights.Helpers = 1 },
		func() { b.Rights.Maps = 0 },
		func() { c.Rights.Programs = 0x1f },
		func() { a.Space = 3 },
		func() { b.Space = 0 },
		func() { c.Space = 2; b.Space = 4 },
		func() { a.Up = &token.Token{Space: 1} },
	} {
		if !token.Sound(x, c) {
			t.Fatal("not sound ahead of a change")
		}
		was := []token.Token{*a, *b, *c}
		change()
		if token.Sound(x, c) {
			t.Errorf("sound: %+v, %+v, %+v", a, b, c)
		}
		*a, *b, *c = was[0], was[1], was[2]
	}
}

// P12.1: a token that leads back to itself has no root: its chain has nothing, and isn't sound.
func TestRoundChains(t *testing.T) {
	x := tree(t)
	for tail := range 6 {
		for round := 1; round < 6; round++ {
			first := chained(round, 0, rights.All())
			end := first
			for end.Up != nil {
				end = end.Up
			}
			end.Up = first
			k := first
			for range tail {
				k = &token.Token{Rights: rights.All(), Up: k}
			}
			if c := token.Chain(k); len(c) != 0 {
				t.Errorf("%d to a round of %d: a chain of %d", tail, round, len(c))
			}
			if token.Sound(x, k) {
				t.Errorf("%d to a round of %d is sound", tail, round)
			}
			underived(t, x, k, 0, rights.All(), api.E2BIG)
			if e := token.Command(k, 0); e != api.OK {
				t.Errorf("Command: %d", e)
			}
		}
	}
}

// P12.1: each bit of each of the three; numbers that can't be are told ahead of no token.
func TestMayOne(t *testing.T) {
	calls := []func(*token.Token, int) api.Errno{token.Command, token.Program, token.Map}
	numbers := []int{-1, -2, -16, 16, 17, 31, 32, 64, 1 << 32, 1<<32 + 1, math.MaxInt, math.MinInt}
	for i, call := range calls {
		for bit := range 16 {
			r := rights.Rights{Helpers: 0xffff, Privileged: true}
			*[]*uint16{&r.Commands, &r.Programs, &r.Maps}[i] = 1 << bit
			others := rights.Rights{Commands: 0xffff, Programs: 0xffff, Maps: 0xffff, Helpers: 0xffff}
			*[]*uint16{&others.Commands, &others.Programs, &others.Maps}[i] ^= 1 << bit
			for n := range 16 {
				want, turned := api.EPERM, api.OK
				if n == bit {
					want, turned = api.OK, api.EPERM
				}
				if e := call(&token.Token{Rights: r}, n); e != want {
					t.Errorf("call %d of %d with bit %d: %d", i, n, bit, e)
				}
				if e := call(&token.Token{Rights: others}, n); e != turned {
					t.Errorf("call %d of %d without bit %d: %d", i, n, bit, e)
				}
				if e := call(nil, n); e != api.EPERM {
					t.Errorf("call %d of %d and nil: %d", i, n, e)
				}
			}
			for _, n := range numbers {
				if e := call(&token.Token{Rights: others}, n); e != api.EINVAL {
					t.Errorf("call %d of %d: %d", i, n, e)
				}
				if e := call(nil, n); e != api.EINVAL {
					t.Errorf("call %d of %d and nil: %d", i, n, e)
				}
			}
		}
	}
}

// P12.1: each helper by its own bit; those that aren't are told ahead of no token.
func TestHelper(t *testing.T) {
	helpers := []int32{1, 2, 3, 5, 7, 87, 88, 89}
	for bit, helper := range helpers {
		one := &token.Token{Rights: rights.Rights{Helpers: 1 << bit}}
		others := &token.Token{Rights: rights.Rights{Commands: 0xffff, Programs: 0xffff, Maps: 0xffff, Helpers: 0xffff &^ (1 << bit)}}
		for _, h := range helpers {
			want, turned := api.EPERM, api.OK
			if h == helper {
				want, turned = api.OK, api.EPERM
			}
			if e := token.Helper(one, h); e != want {
				t.Errorf("Helper %d with that of %d: %d", h, helper, e)
			}
			if e := token.Helper(others, h); e != turned {
				t.Errorf("Helper %d without that of %d: %d", h, helper, e)
			}
		}
		if e := token.Helper(nil, helper); e != api.EPERM {
			t.Errorf("Helper %d and nil: %d", helper, e)
		}
	}
	all := &token.Token{Rights: rights.Rights{Helpers: 0xffff}}
	for _, h := range []int32{0, -1, 4, 6, 8, 15, 16, 86, 90, 257, 1 << 16, 1<<16 + 1, math.MaxInt32, math.MinInt32} {
		if e := token.Helper(all, h); e != api.EINVAL {
			t.Errorf("Helper %d: %d", h, e)
		}
		if e := token.Helper(nil, h); e != api.EINVAL {
			t.Errorf("Helper %d and nil: %d", h, e)
		}
	}
}

// P12.1: the document's example.
func TestExample(t *testing.T) {
	x := space.New()
	up := root(t, x, 0, rights.All())
	r := rights.All()
	bit, _ := rights.Bit(7)
	r.Helpers &^= 1 << bit
	it := derived(t, x, up, 0, r)
	if e := token.Helper(it, 7); e != api.EPERM {
		t.Errorf("Helper(it, 7): %d", e)
	}
	if e := token.Helper(it, 5); e != api.OK {
		t.Errorf("Helper(it, 5): %d", e)
	}
}

// may tells what a token lets one do, by all calls that ask.
func may(x *token.Token) []api.Errno {
	var told []api.Errno
	for n := range 16 {
		told = append(told, token.Command(x, n), token.Program(x, n), token.Map(x, n))
	}
	for _, h := range []int32{1, 2, 3, 5, 7, 87, 88, 89} {
		told = append(told, token.Helper(x, h))
	}
	return told
}

// nearly are rights that are often within others.
func nearly(chance *rand.Rand, r rights.Rights) rights.Rights {
	r.Commands &= uint16(chance.Uint32() | chance.Uint32())
	r.Programs &= uint16(chance.Uint32() | chance.Uint32())
	r.Maps &= uint16(chance.Uint32() | chance.Uint32())
	r.Helpers &= uint16(chance.Uint32() | chance.Uint32())
	r.Privileged = r.Privileged && chance.IntN(3) > 0
	r.Signed = r.Signed || chance.IntN(3) == 0
	if chance.IntN(4) == 0 {
		r.Maps ^= 1 << chance.IntN(16)
	}
	return r
}

// P12.2: scripts of tokens that are derived of one another.
func TestDerivedMayNoMore(t *testing.T) {
	for seed := range uint64(40) {
		chance := rand.New(rand.NewPCG(12, seed))
		x := tree(t)
		tokens := []*token.Token{root(t, x, 0, rights.All())}
		for range 100 {
			up := tokens[chance.IntN(len(tokens))]
			at, r := chance.IntN(7), nearly(chance, up.Rights)
			k, e := token.Derive(x, up, at, r)
			want := api.OK
			switch {
			case at == 6:
				want = api.ENOENT
			case !slices.Contains(x.Path(at), up.Space) || !rights.Within(r, up.Rights):
				want = api.EPERM
			case len(token.Chain(up)) == 4:
				want = api.E2BIG
			}
			if e != want || (k != nil) != (e == api.OK) {
				t.Fatalf("Derive(%d, %+v) of %+v: %+v, %d, not %d", at, r, up, k, e, want)
			}
			if k != nil {
				tokens = append(tokens, k)
			}
		}
		for _, k := range tokens {
			if !token.Sound(x, k) {
				t.Errorf("%+v isn't sound", k)
			}
			for _, up := range token.Chain(k) {
				for i, e := range may(k) {
					if e == api.OK && may(up)[i] != api.OK {
						t.Errorf("%+v may more than %+v: at %d", k, up, i)
					}
				}
				if k.Rights.Privileged && !up.Rights.Privileged || up.Rights.Signed && !k.Rights.Signed || !x.Inside(k.Space, up.Space) {
					t.Errorf("%+v is beyond %+v", k, up)
				}
			}
		}
		if len(tokens) < 10 {
			t.Errorf("%d tokens", len(tokens))
		}
	}
}

// P12.3: each call answers a list, or a token, of its own.
func TestAnswersAreNew(t *testing.T) {
	x := tree(t)
	a := root(t, x, 0, rights.All())
	if a == root(t, x, 0, rights.All()) {
		t.Error("two roots are one token")
	}
	b := derived(t, x, a, 1, rights.All())
	if b == derived(t, x, a, 1, rights.All()) {
		t.Error("two that were derived are one token")
	}
	one, other := token.Chain(b), token.Chain(b)
	whole := one[:cap(one)]
	for i := range whole {
		whole[i] = nil
	}
	if !slices.Equal(other, []*token.Token{a, b}) || !slices.Equal(token.Chain(b), other) || b.Up != a {
		t.Errorf("Chain: %v", other)
	}
}

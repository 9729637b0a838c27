package gate

import (
	"slices"
	"testing"

	"tipstaff/api"
	"tipstaff/bmap"
	"tipstaff/lamport"
	"tipstaff/loader"
	"tipstaff/rights"
)

// P22.1: 1000 times held, and not once more. No calls bring one so far: so the table is told of it by itself.
func TestHeldTooOften(t *testing.T) {
	signed := rights.All()
	signed.Signed = true
	array := bmap.Spec{Type: api.Array, Key: 4, Value: 8, Entries: 1}
	m, _ := bmap.New(array)
	key := lamport.Key([]byte("k"))
	a := loader.Ask{Insns: []api.Insn{{Op: 0x18, Src: 1, Imm: 1}, {}, {Op: 0xb7}, {Op: 0x95}}}
	sum, _ := loader.Sum(a, []*bmap.Map{m})
	a.Signature = lamport.Sign([]byte("k"), sum)
	wrong := a
	wrong.Signature = lamport.Sign([]byte("j"), sum)
	for often := 1; often <= 2; often++ {
		k := New()
		for _, c := range []Call{
			{Command: Root, Rights: signed}, {Command: MapCreate, Spec: array}, {Command: Freeze, Fd: 1}, {Command: AddKey, Key: key[:]},
		} {
			if r := k.Do(c); r.Err != api.OK {
				t.Fatal(r)
			}
		}
		for k.objects.Held(often) < 1000 {
			k.objects.Hold(often)
		}
		calls := []Call{{Command: Dup, Fd: often - 1}, {Command: Send, Fd: often - 1, N: 2}, {Command: ProgLoad, Ask: a}}
		if often == 1 {
			calls = append(calls, Call{Command: Derive, Rights: signed})
		}
		refusedAll(t, k, calls, api.ENOSPC)
		refusedAll(t, k, []Call{{Command: ProgLoad, Ask: wrong}}, api.EKEYREJECTED)
		refusedAll(t, k, []Call{{Command: Send, Fd: often - 1, N: 4}}, api.EINVAL)
		// Once less held, each is done, and by the key that wasn't spent.
		for _, c := range calls {
			k.objects.Drop(often)
			if r := k.Do(c); r.Err != api.OK {
				t.Errorf("%+v: %+v", c, r)
			}
		}
		fill(k)
		refusedAll(t, k, calls[:1], api.EMFILE)
	}
}

// P22.1: EMFILE and ENOMEM are told ahead of ENOSPC.
func TestHeldTooOftenIsLast(t *testing.T) {
	k := New()
	k.Do(Call{Command: Root, Rights: rights.All()})
	for k.objects.Held(1) < 1000 {
		k.objects.Hold(1)
	}
	calls := []Call{{Command: ProgLoad, Ask: loader.Ask{Insns: []api.Insn{{Op: 0xb7}, {Op: 0x95}}}}, {Command: Derive}}
	refusedAll(t, k, calls, api.ENOSPC)
	for len(k.objects.Live()) < api.MaxObjects {
		k.objects.Make(Object{})
	}
	refusedAll(t, k, calls, api.ENOMEM)
	fill(k)
	refusedAll(t, k, append(calls, Call{Command: Dup}, Call{Tenant: 0, Command: Send}), api.EMFILE)
}

// fill leaves tenant 0 no descriptor.
func fill(k *Kernel) {
	for k.fds[0].Free() > 0 {
		k.fds[0].Open(1)
	}
}

func refusedAll(t *testing.T, k *Kernel, calls []Call, want api.Errno) {
	t.Helper()
	for _, c := range calls {
		live, fds, other := k.objects.Live(), k.Fds(0), k.Fds(2)
		often := []int{k.objects.Held(1), k.objects.Held(2)}
		if r := k.Do(c); r.Err != want || r.Fd != 0 {
			t.Errorf("%+v: %+v, not %d", c, r, want)
		}
		if !slices.Equal(live, k.objects.Live()) || !slices.Equal(fds, k.Fds(0)) || !slices.Equal(other, k.Fds(2)) ||
			!slices.Equal(often, []int{k.objects.Held(1), k.objects.Held(2)}) {
			t.Errorf("%+v: changed", c)
		}
	}
}

// P22.1: Sound counts who names an object, and knows of names for what isn't there.
func TestSoundCounts(t *testing.T) {
	made := func() *Kernel {
		k := New()
		k.Do(Call{Command: Root, Rights: rights.All()})
		k.Do(Call{Command: Derive, Rights: rights.All()})
		if !k.Sound() {
			t.Fatal("not sound")
		}
		return k
	}
	for name, spoil := range map[string]func(*Kernel){
		"held once too often":                func(k *Kernel) { k.objects.Hold(1) },
		"held once too seldom":               func(k *Kernel) { k.objects.Drop(1) },
		"gone, though a descriptor names it": func(k *Kernel) { k.objects.Drop(2) },
		"there, though nothing names it":     func(k *Kernel) { k.objects.Make(Object{Kind: IsMap}) },
		"a descriptor for nothing":           func(k *Kernel) { k.fds[3].Open(9) },
		"a descriptor too many":              func(k *Kernel) { k.fds[3].Open(2) },
		"a descriptor too few":               func(k *Kernel) { k.fds[0].Close(0) },
	} {
		k := made()
		spoil(k)
		if k.Sound() {
			t.Errorf("sound: %s", name)
		}
	}
}

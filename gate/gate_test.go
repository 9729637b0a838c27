package gate_test

import (
	"bytes"
	"fmt"
	"math"
	"slices"
	"strings"
	"testing"

	"tipstaff/api"
	"tipstaff/bmap"
	"tipstaff/gate"
	"tipstaff/lamport"
	"tipstaff/loader"
	"tipstaff/rights"
)

var (
	end     = []api.Insn{movTo(0, 7), {Op: 0x95}}
	hash    = bmap.Spec{Type: api.Hash, Key: 1, Value: 1, Entries: 2}
	array   = bmap.Spec{Type: api.Array, Key: 4, Value: 8, Entries: 2}
	queue   = bmap.Spec{Type: api.Queue, Value: 8, Entries: 3}
	allSeen = []int{gate.MapCreate, gate.ProgLoad, gate.Derive, gate.Update, gate.Lookup, gate.Delete, gate.Freeze, gate.Run, gate.Close, gate.Dup, gate.Send, gate.AddKey, gate.Root, gate.NewSpace}
)

func movTo(dst uint8, imm int32) api.Insn { return api.Insn{Op: 0xb7, Dst: dst, Imm: imm} }

func helper(n int32) api.Insn { return api.Insn{Op: 0x85, Imm: n} }

func wideMap(dst uint8, fd int32) []api.Insn {
	return []api.Insn{{Op: 0x18, Dst: dst, Src: 1, Imm: fd}, {}}
}

// naming is a program that names the maps of these descriptors, and answers 7.
func naming(fds ...int) []api.Insn {
	var l []api.Insn
	for _, fd := range fds {
		l = append(l, wideMap(3, int32(fd))...)
	}
	return append(l, end...)
}

// counting adds 1 to the value 0 of an Array of 8 bytes, and answers what it was.
func counting(fd int) []api.Insn {
	return slices.Concat(
		[]api.Insn{{Op: 0x62, Dst: 10, Off: -4}}, wideMap(1, int32(fd)),
		[]api.Insn{
			{Op: 0xbf, Dst: 2, Src: 10}, {Op: 0x07, Dst: 2, Imm: -4}, helper(1),
			{Op: 0x55, Dst: 0, Off: 2}, movTo(0, 0), {Op: 0x95},
			movTo(6, 1), {Op: 0x79, Dst: 7, Src: 0}, {Op: 0xdb, Dst: 0, Src: 6}, {Op: 0xbf, Dst: 0, Src: 7}, {Op: 0x95},
		})
}

// pushing pushes 8 bytes of the context to a Queue, and answers what comes of it.
func pushing(fd int) []api.Insn {
	return slices.Concat(
		[]api.Insn{{Op: 0xbf, Dst: 2, Src: 1}}, wideMap(1, int32(fd)), []api.Insn{movTo(3, 0), helper(87), {Op: 0x95}})
}

// summing answers a byte of the context and the clock and a random number, added.
var summing = []api.Insn{
	{Op: 0x71, Dst: 6, Src: 1, Off: 31}, helper(5), {Op: 0x0f, Dst: 6, Src: 0}, helper(7), {Op: 0x0f, Dst: 0, Src: 6}, {Op: 0x95},
}

// picture tells all that can be seen of a kernel.
func picture(k *gate.Kernel) string {
	var b strings.Builder
	for _, o := range k.Objects() {
		fmt.Fprintf(&b, "%d: %d held %d holds %d", o.Id, o.Kind, o.Held, o.Holds)
		if o.Map != nil {
			fmt.Fprintf(&b, " %x %t", o.Map.Sum(), o.Map.Frozen())
		}
		if o.Prog != nil {
			fmt.Fprintf(&b, " %+v", *o.Prog)
		}
		if o.Token != nil {
			fmt.Fprintf(&b, " %+v", *o.Token)
		}
		b.WriteByte('\n')
	}
	for tenant := range 4 {
		fmt.Fprintln(&b, k.Fds(tenant))
	}
	fmt.Fprintln(&b, k.Spaces(), k.Keys())
	return b.String()
}

// yes is a call that must answer just so; no, one that is refused and changes nothing.
func yes(t *testing.T, k *gate.Kernel, c gate.Call, want gate.Result) {
	t.Helper()
	got := k.Do(c)
	if got.Err != api.OK || got.Fd != want.Fd || got.Value != want.Value || !bytes.Equal(got.Bytes, want.Bytes) {
		t.Fatalf("%+v: %+v, not %+v", c, got, want)
	}
	if !k.Sound() {
		t.Fatalf("%+v: not sound: %s", c, picture(k))
	}
}

func no(t *testing.T, k *gate.Kernel, c gate.Call, want api.Errno) {
	t.Helper()
	before := picture(k)
	got := k.Do(c)
	if got.Err != want || got.Fd != 0 || got.Value != 0 || got.Bytes != nil {
		t.Errorf("%+v: %+v, not %d", c, got, want)
	}
	if after := picture(k); after != before || !k.Sound() {
		t.Errorf("%+v: of\n%sit made\n%s", c, before, after)
	}
}

func fdOf(fd int) gate.Result { return gate.Result{Fd: fd} }

// rooted is a kernel whose tenant 0 has a root of these rights by descriptor 0.
func rooted(t *testing.T, r rights.Rights) *gate.Kernel {
	t.Helper()
	k := gate.New()
	yes(t, k, gate.Call{Command: gate.Root, Rights: r}, fdOf(0))
	return k
}

func without(take func(*rights.Rights)) rights.Rights {
	r := rights.All()
	take(&r)
	return r
}

func signed() rights.Rights { return without(func(r *rights.Rights) { r.Signed = true }) }

// held are the numbers of all objects, each with how often it is held and what it holds.
func held(t *testing.T, k *gate.Kernel, want ...string) {
	t.Helper()
	var got []string
	for _, o := range k.Objects() {
		got = append(got, fmt.Sprint(o.Id, o.Kind, o.Held, o.Holds))
	}
	if !slices.Equal(got, want) {
		t.Errorf("%q, not %q", got, want)
	}
}

func fdsAre(t *testing.T, k *gate.Kernel, tenant int, want ...[2]int) {
	t.Helper()
	if got := k.Fds(tenant); !slices.Equal(got, want) {
		t.Errorf("tenant %d: %d, not %d", tenant, got, want)
	}
}

// P22.1
func TestNew(t *testing.T) {
	k := gate.New()
	if len(k.Objects()) != 0 || k.Spaces() != 1 || k.Keys() != 0 || !k.Sound() {
		t.Error(picture(k))
	}
	for tenant := -1; tenant <= 4; tenant++ {
		fdsAre(t, k, tenant)
	}
	yes(t, k, gate.Call{Command: gate.Root, Rights: rights.All()}, fdOf(0))
	if len(gate.New().Objects()) != 0 {
		t.Error("kernels share their objects")
	}
}

// P22.1
func TestNoSuchTenantOrCommand(t *testing.T) {
	k := rooted(t, rights.All())
	for _, n := range []int{-1, 4, 5, 1 << 32, math.MaxInt, math.MinInt} {
		for _, command := range allSeen {
			no(t, k, gate.Call{Tenant: n, Command: command, Rights: rights.All(), Key: make([]byte, 32)}, api.EINVAL)
		}
		fdsAre(t, k, n)
	}
	for _, command := range []int{-1, 14, 15, 255, 1 << 32, math.MaxInt, math.MinInt} {
		no(t, k, gate.Call{Command: command}, api.EINVAL)
		no(t, k, gate.Call{Tenant: 1, Command: command, Fd: 9}, api.EINVAL)
	}
}

// P22.1: and of one that New hasn't made no call panics.
func TestNoKernel(t *testing.T) {
	var k *gate.Kernel
	for _, command := range append(allSeen, 14, -1) {
		for tenant := -1; tenant <= 4; tenant++ {
			if r := k.Do(gate.Call{Tenant: tenant, Command: command}); r.Err != api.EINVAL || r.Fd != 0 || r.Value != 0 || r.Bytes != nil {
				t.Errorf("%+v", r)
			}
			if r := new(gate.Kernel).Do(gate.Call{Tenant: tenant, Command: command, Key: make([]byte, 32), Rights: rights.All()}); r.Err == api.OK {
				t.Errorf("%d: %+v", command, r)
			}
		}
	}
	if k.Objects() != nil || k.Fds(0) != nil || k.Spaces() != 0 || k.Keys() != 0 || k.Sound() {
		t.Error("of nil")
	}
	x := new(gate.Kernel)
	if len(x.Objects()) != 0 || len(x.Fds(0)) != 0 || x.Spaces() != 0 || x.Keys() != 0 {
		t.Error(picture(x))
	}
	x.Sound()
}

// P22.1
func TestRoot(t *testing.T) {
	k := gate.New()
	few := rights.Rights{Commands: 4, Signed: true}
	yes(t, k, gate.Call{Command: gate.NewSpace}, gate.Result{Value: 1})
	yes(t, k, gate.Call{Command: gate.Root, N: 1, Rights: few, Fd: 99}, fdOf(0))
	yes(t, k, gate.Call{Command: gate.Root, Rights: rights.All(), Fd: -1}, fdOf(1))
	for tenant := 1; tenant < 4; tenant++ {
		no(t, k, gate.Call{Tenant: tenant, Command: gate.Root, N: 9, Rights: rights.Rights{Maps: 64}}, api.EPERM)
		no(t, k, gate.Call{Tenant: tenant, Command: gate.Root, Rights: few}, api.EPERM)
	}
	no(t, k, gate.Call{Command: gate.Root, N: 2, Rights: rights.Rights{Maps: 64}}, api.ENOENT)
	no(t, k, gate.Call{Command: gate.Root, N: -1}, api.ENOENT)
	no(t, k, gate.Call{Command: gate.Root, N: 1, Rights: rights.Rights{Maps: 64}}, api.EPERM)
	held(t, k, "1 3 1 []", "2 3 1 []")
	if o := k.Objects()[0]; o.Token == nil || o.Token.Space != 1 || o.Token.Rights != few || o.Token.Up != nil || o.Map != nil || o.Prog != nil {
		t.Errorf("%+v", o)
	}
}

// P22.1
func TestNewSpace(t *testing.T) {
	k := gate.New()
	for tenant := 1; tenant < 4; tenant++ {
		no(t, k, gate.Call{Tenant: tenant, Command: gate.NewSpace}, api.EPERM)
		no(t, k, gate.Call{Tenant: tenant, Command: gate.NewSpace, N: 99}, api.EPERM)
	}
	for n := range 4 {
		no(t, k, gate.Call{Command: gate.NewSpace, N: n + 1}, api.ENOENT)
		yes(t, k, gate.Call{Command: gate.NewSpace, N: n, Fd: 9}, gate.Result{Value: uint64(n + 1)})
	}
	no(t, k, gate.Call{Command: gate.NewSpace, N: 4}, api.E2BIG)
	for n := 5; n < 8; n++ {
		yes(t, k, gate.Call{Command: gate.NewSpace, N: 0}, gate.Result{Value: uint64(n)})
	}
	no(t, k, gate.Call{Command: gate.NewSpace, N: 4}, api.E2BIG)
	no(t, k, gate.Call{Command: gate.NewSpace}, api.ENOSPC)
	if k.Spaces() != 8 {
		t.Error(k.Spaces())
	}
}

// P22.1
func TestAddKey(t *testing.T) {
	k := gate.New()
	key := bytes.Repeat([]byte{5}, 32)
	for tenant := 1; tenant < 4; tenant++ {
		no(t, k, gate.Call{Tenant: tenant, Command: gate.AddKey, Key: key}, api.EPERM)
		no(t, k, gate.Call{Tenant: tenant, Command: gate.AddKey}, api.EPERM)
	}
	for _, n := range []int{0, 1, 31, 33, 64} {
		no(t, k, gate.Call{Command: gate.AddKey, Key: make([]byte, n)}, api.EINVAL)
	}
	for n := range 32 {
		key[0] = byte(n)
		yes(t, k, gate.Call{Command: gate.AddKey, Key: key, Fd: 9}, gate.Result{})
		if k.Keys() != n+1 {
			t.Error(k.Keys())
		}
		no(t, k, gate.Call{Command: gate.AddKey, Key: key}, api.EEXIST)
	}
	no(t, k, gate.Call{Command: gate.AddKey, Key: make([]byte, 32)}, api.ENOSPC)
	if len(k.Objects()) != 0 {
		t.Error("a key is an object")
	}
}

// P22.1
func TestMapCreate(t *testing.T) {
	k := rooted(t, without(func(r *rights.Rights) { r.Maps &^= 1 << api.LRU }))
	yes(t, k, gate.Call{Command: gate.MapCreate, Spec: hash}, fdOf(1))
	yes(t, k, gate.Call{Command: gate.MapCreate, Spec: array}, fdOf(2))
	held(t, k, "1 3 1 []", "2 1 1 []", "3 1 1 []")
	if o := k.Objects()[1]; o.Map == nil || o.Map.Spec() != hash || o.Prog != nil || o.Token != nil {
		t.Errorf("%+v", o)
	}
	for _, x := range []struct {
		fd   int
		spec bmap.Spec
		want api.Errno
	}{
		{3, hash, api.EBADF}, {1, hash, api.EBADF}, {-1, hash, api.EBADF}, {16, hash, api.EBADF}, {1, bmap.Spec{Type: 99}, api.EBADF},
		{0, bmap.Spec{Type: api.LRU}, api.EPERM}, {0, bmap.Spec{Type: 6}, api.EPERM}, {0, bmap.Spec{Type: 15}, api.EPERM},
		{0, bmap.Spec{Type: 16}, api.EINVAL}, {0, bmap.Spec{Type: -1}, api.EINVAL},
		{0, bmap.Spec{Type: api.Hash}, api.EINVAL}, {0, bmap.Spec{}, api.EINVAL},
	} {
		no(t, k, gate.Call{Command: gate.MapCreate, Fd: x.fd, Spec: x.spec}, x.want)
	}
	few := rooted(t, without(func(r *rights.Rights) { r.Commands = 0xfe }))
	no(t, few, gate.Call{Command: gate.MapCreate, Spec: hash}, api.EPERM)
	no(t, few, gate.Call{Command: gate.MapCreate, Spec: bmap.Spec{Type: 16}}, api.EPERM)
}

// P22.1
func TestDerive(t *testing.T) {
	k := rooted(t, without(func(r *rights.Rights) { r.Helpers = 15 }))
	few := rights.Rights{Commands: 7, Maps: 2, Helpers: 8}
	yes(t, k, gate.Call{Command: gate.NewSpace}, gate.Result{Value: 1})
	yes(t, k, gate.Call{Command: gate.Derive, N: 1, Rights: few}, fdOf(1))
	yes(t, k, gate.Call{Command: gate.Derive, Fd: 1, N: 1, Rights: few}, fdOf(2))
	held(t, k, "1 3 2 []", "2 3 2 [1]", "3 3 1 [2]")
	l := k.Objects()
	if x := l[2].Token; x.Space != 1 || x.Rights != few || x.Up != l[1].Token || x.Up.Up != l[0].Token {
		t.Errorf("%+v", x)
	}
	yes(t, k, gate.Call{Command: gate.MapCreate, Fd: 2, Spec: hash}, fdOf(3))
	for _, x := range []struct {
		fd, n int
		r     rights.Rights
		want  api.Errno
	}{
		{3, 1, few, api.EBADF}, {9, 9, rights.All(), api.EBADF}, {-1, 1, few, api.EBADF},
		{1, 2, rights.All(), api.ENOENT}, {1, -1, few, api.ENOENT}, {1, 0, few, api.EPERM}, {0, 1, rights.All(), api.EPERM},
	} {
		no(t, k, gate.Call{Command: gate.Derive, Fd: x.fd, N: x.n, Rights: x.r}, x.want)
	}
	yes(t, k, gate.Call{Command: gate.Derive, Fd: 2, N: 1, Rights: rights.Rights{}}, fdOf(4))
	no(t, k, gate.Call{Command: gate.Derive, Fd: 4, N: 9}, api.EPERM)
	yes(t, k, gate.Call{Command: gate.Close, Fd: 4}, gate.Result{})
	yes(t, k, gate.Call{Command: gate.Derive, Fd: 2, N: 1, Rights: few}, fdOf(4))
	no(t, k, gate.Call{Command: gate.Derive, Fd: 4, N: 1}, api.E2BIG)
	no(t, k, gate.Call{Command: gate.Derive, Fd: 4, N: 1, Rights: rights.All()}, api.EPERM)
}

// P22.1
func TestEntries(t *testing.T) {
	k := rooted(t, rights.All())
	yes(t, k, gate.Call{Command: gate.MapCreate, Spec: hash}, fdOf(1))
	yes(t, k, gate.Call{Command: gate.MapCreate, Spec: queue}, fdOf(2))
	a, b, c := []byte("a"), []byte("b"), []byte("c")
	no(t, k, gate.Call{Command: gate.Lookup, Fd: 1, Key: a}, api.ENOENT)
	no(t, k, gate.Call{Command: gate.Delete, Fd: 1, Key: a}, api.ENOENT)
	no(t, k, gate.Call{Command: gate.Update, Fd: 1, Key: a, Value: b, Flags: 2}, api.ENOENT)
	yes(t, k, gate.Call{Command: gate.Update, Fd: 1, Key: a, Value: b, Flags: 1}, gate.Result{})
	yes(t, k, gate.Call{Command: gate.Lookup, Fd: 1, Key: a}, gate.Result{Bytes: b})
	no(t, k, gate.Call{Command: gate.Update, Fd: 1, Key: a, Value: c, Flags: 1}, api.EEXIST)
	yes(t, k, gate.Call{Command: gate.Update, Fd: 1, Key: a, Value: c, Flags: 2}, gate.Result{})
	yes(t, k, gate.Call{Command: gate.Lookup, Fd: 1, Key: a}, gate.Result{Bytes: c})
	yes(t, k, gate.Call{Command: gate.Update, Fd: 1, Key: b, Value: c}, gate.Result{})
	no(t, k, gate.Call{Command: gate.Update, Fd: 1, Key: c, Value: c}, api.E2BIG)
	for _, flags := range []uint64{3, 1 << 32, math.MaxUint64} {
		no(t, k, gate.Call{Command: gate.Update, Fd: 1, Key: a, Value: c, Flags: flags}, api.EINVAL)
	}
	yes(t, k, gate.Call{Command: gate.Delete, Fd: 1, Key: b}, gate.Result{})
	for _, command := range []int{gate.Update, gate.Lookup, gate.Delete} {
		no(t, k, gate.Call{Command: command, Fd: 1, Value: b}, api.EINVAL)
		no(t, k, gate.Call{Command: command, Fd: 2, Value: make([]byte, 8)}, api.EINVAL)
		for _, fd := range []int{0, 3, -1, 16, math.MaxInt} {
			no(t, k, gate.Call{Command: command, Fd: fd, Key: a, Value: b}, api.EBADF)
		}
	}
	yes(t, k, gate.Call{Command: gate.Freeze, Fd: 1}, gate.Result{})
	no(t, k, gate.Call{Command: gate.Update, Fd: 1, Key: a, Value: b}, api.EPERM)
	no(t, k, gate.Call{Command: gate.Delete, Fd: 1, Key: a}, api.EPERM)
	yes(t, k, gate.Call{Command: gate.Lookup, Fd: 1, Key: a}, gate.Result{Bytes: c})
}

// P22.1, P22.3: a map that a program holds isn't frozen, by whatever descriptor, whosoever's program it is.
func TestFreeze(t *testing.T) {
	k := rooted(t, rights.All())
	yes(t, k, gate.Call{Command: gate.MapCreate, Spec: array}, fdOf(1))
	yes(t, k, gate.Call{Command: gate.MapCreate, Spec: array}, fdOf(2))
	yes(t, k, gate.Call{Command: gate.ProgLoad, Ask: loader.Ask{Insns: slices.Concat(wideMap(4, 2), counting(1))}}, fdOf(3))
	yes(t, k, gate.Call{Command: gate.Send, Fd: 1, N: 2}, gate.Result{})
	yes(t, k, gate.Call{Command: gate.Send, Fd: 3, N: 3}, gate.Result{})
	busy := []gate.Call{{Command: gate.Freeze, Fd: 1}, {Command: gate.Freeze, Fd: 2}, {Tenant: 2, Command: gate.Freeze}}
	for _, c := range busy {
		no(t, k, c, api.EBUSY)
	}
	yes(t, k, gate.Call{Command: gate.Close, Fd: 3}, gate.Result{})
	for _, c := range busy {
		no(t, k, c, api.EBUSY)
	}
	yes(t, k, gate.Call{Tenant: 3, Command: gate.Run, N: 99}, gate.Result{})
	yes(t, k, gate.Call{Tenant: 3, Command: gate.Close}, gate.Result{})
	yes(t, k, busy[2], gate.Result{})
	no(t, k, busy[0], api.EBUSY)
	no(t, k, busy[2], api.EBUSY)
	yes(t, k, busy[1], gate.Result{})
	for _, fd := range []int{0, 3, -1, 16} {
		no(t, k, gate.Call{Command: gate.Freeze, Fd: fd}, api.EBADF)
	}
	// What is frozen ahead a program may hold, and read.
	no(t, k, gate.Call{Command: gate.ProgLoad, Ask: loader.Ask{Insns: counting(1)}}, api.EACCES)
	yes(t, k, gate.Call{Command: gate.ProgLoad, Ask: loader.Ask{Insns: naming(1, 2)}}, fdOf(3))
	no(t, k, busy[1], api.EBUSY)
}

// P22.1: a map that only tokens and descriptors stand beside is no program's.
func TestFreezeOfAnotherNumber(t *testing.T) {
	k := rooted(t, rights.All())
	yes(t, k, gate.Call{Command: gate.MapCreate, Spec: array}, fdOf(1))
	yes(t, k, gate.Call{Command: gate.MapCreate, Spec: array}, fdOf(2))
	yes(t, k, gate.Call{Command: gate.Derive, Rights: rights.All()}, fdOf(3))
	yes(t, k, gate.Call{Command: gate.ProgLoad, Ask: loader.Ask{Insns: naming(1)}}, fdOf(4))
	yes(t, k, gate.Call{Command: gate.Dup, Fd: 2}, fdOf(5))
	yes(t, k, gate.Call{Command: gate.Freeze, Fd: 2}, gate.Result{})
}

// P22.1: what a run is given, and what it tells.
func TestRun(t *testing.T) {
	k := rooted(t, rights.All())
	yes(t, k, gate.Call{Command: gate.MapCreate, Spec: array}, fdOf(1))
	yes(t, k, gate.Call{Command: gate.ProgLoad, Ask: loader.Ask{Insns: summing}}, fdOf(2))
	yes(t, k, gate.Call{Command: gate.ProgLoad, Ask: loader.Ask{Insns: counting(1)}}, fdOf(3))
	yes(t, k, gate.Call{Command: gate.Run, Fd: 2, N: 6, Ctx: [32]byte{31: 9}, Clock: 1 << 40, Random: []uint64{30, 5}}, gate.Result{Value: 1<<40 + 39})
	yes(t, k, gate.Call{Command: gate.Run, Fd: 2, N: math.MaxInt, Clock: math.MaxUint64}, gate.Result{Value: math.MaxUint64})
	for _, n := range []int{5, 1, 0, -1, math.MinInt} {
		no(t, k, gate.Call{Command: gate.Run, Fd: 2, N: n, Clock: 5}, api.ETIME)
	}
	for _, fd := range []int{0, 1, 4, -1, 16} {
		no(t, k, gate.Call{Command: gate.Run, Fd: fd, N: 9}, api.EBADF)
	}
	// A run's maps are those that stand behind descriptors.
	for n := range uint64(3) {
		yes(t, k, gate.Call{Command: gate.Run, Fd: 3, N: 11}, gate.Result{Value: n})
	}
	yes(t, k, gate.Call{Command: gate.Lookup, Fd: 1, Key: make([]byte, 4)}, gate.Result{Bytes: []byte{3, 0, 0, 0, 0, 0, 0, 0}})
	yes(t, k, gate.Call{Command: gate.Update, Fd: 1, Key: make([]byte, 4), Value: []byte{0, 1, 0, 0, 0, 0, 0, 0}}, gate.Result{})
	// A run with an error may have changed them all the same.
	if r := k.Do(gate.Call{Command: gate.Run, Fd: 3, N: 10}); r.Err != api.ETIME || r.Value != 0 || r.Fd != 0 || r.Bytes != nil {
		t.Errorf("%+v", r)
	}
	yes(t, k, gate.Call{Command: gate.Run, Fd: 3, N: 11}, gate.Result{Value: 257})
}

// P22.1
func TestDupAndSend(t *testing.T) {
	k := rooted(t, rights.All())
	yes(t, k, gate.Call{Command: gate.MapCreate, Spec: hash}, fdOf(1))
	yes(t, k, gate.Call{Command: gate.Dup, Fd: 1}, fdOf(2))
	yes(t, k, gate.Call{Command: gate.Dup, Fd: 0}, fdOf(3))
	yes(t, k, gate.Call{Command: gate.Close, Fd: 1}, gate.Result{})
	yes(t, k, gate.Call{Command: gate.Dup, Fd: 3}, fdOf(1))
	yes(t, k, gate.Call{Command: gate.Send, Fd: 2, N: 3}, gate.Result{})
	yes(t, k, gate.Call{Command: gate.Send, Fd: 0, N: 3}, gate.Result{})
	yes(t, k, gate.Call{Tenant: 3, Command: gate.Send, Fd: 0, N: 3}, gate.Result{})
	yes(t, k, gate.Call{Tenant: 3, Command: gate.Send, Fd: 1, N: 0}, gate.Result{})
	held(t, k, "1 3 5 []", "2 1 3 []")
	fdsAre(t, k, 0, [2]int{0, 1}, [2]int{1, 1}, [2]int{2, 2}, [2]int{3, 1}, [2]int{4, 1})
	fdsAre(t, k, 3, [2]int{0, 2}, [2]int{1, 1}, [2]int{2, 2})
	for _, fd := range []int{5, -1, 16, math.MaxInt, math.MinInt} {
		no(t, k, gate.Call{Command: gate.Dup, Fd: fd}, api.EBADF)
		no(t, k, gate.Call{Command: gate.Close, Fd: fd}, api.EBADF)
		no(t, k, gate.Call{Command: gate.Send, Fd: fd, N: 1}, api.EBADF)
		no(t, k, gate.Call{Command: gate.Send, Fd: fd, N: 4}, api.EBADF)
	}
	for _, n := range []int{4, -1, 1 << 32, math.MaxInt, math.MinInt} {
		no(t, k, gate.Call{Command: gate.Send, Fd: 0, N: n}, api.EINVAL)
	}
	no(t, k, gate.Call{Tenant: 1, Command: gate.Send, Fd: 0, N: 2}, api.EBADF)
	// Of 16 descriptors, and not one more.
	for fd := 3; fd < 16; fd++ {
		yes(t, k, gate.Call{Command: gate.Send, Fd: 1, N: 3}, gate.Result{})
	}
	no(t, k, gate.Call{Command: gate.Send, Fd: 1, N: 3}, api.EMFILE)
	no(t, k, gate.Call{Tenant: 3, Command: gate.Send, Fd: 1, N: 3}, api.EMFILE)
	no(t, k, gate.Call{Tenant: 3, Command: gate.Send, Fd: 1, N: 4}, api.EINVAL)
	no(t, k, gate.Call{Tenant: 3, Command: gate.Dup, Fd: 15}, api.EMFILE)
	no(t, k, gate.Call{Tenant: 3, Command: gate.Dup, Fd: 16}, api.EBADF)
	yes(t, k, gate.Call{Tenant: 3, Command: gate.Send, Fd: 15, N: 1}, gate.Result{})
	yes(t, k, gate.Call{Tenant: 3, Command: gate.Close, Fd: 7}, gate.Result{})
	yes(t, k, gate.Call{Tenant: 3, Command: gate.Dup, Fd: 15}, fdOf(7))
}

// P22.1, P2: an object lives as long as something names it, and what it named goes with it.
func TestClose(t *testing.T) {
	k := rooted(t, rights.All())
	yes(t, k, gate.Call{Command: gate.Derive, Rights: rights.All()}, fdOf(1))
	yes(t, k, gate.Call{Command: gate.Derive, Fd: 1, Rights: rights.All()}, fdOf(2))
	yes(t, k, gate.Call{Command: gate.MapCreate, Spec: hash}, fdOf(3))
	yes(t, k, gate.Call{Command: gate.MapCreate, Spec: queue}, fdOf(4))
	yes(t, k, gate.Call{Command: gate.ProgLoad, Fd: 2, Ask: loader.Ask{Insns: naming(4, 3)}}, fdOf(5))
	yes(t, k, gate.Call{Command: gate.ProgLoad, Fd: 1, Ask: loader.Ask{Insns: naming(3)}}, fdOf(6))
	held(t, k, "1 3 2 []", "2 3 3 [1]", "3 3 2 [2]", "4 1 3 []", "5 1 2 []", "6 2 1 [5 4 3]", "7 2 1 [4 2]")
	for fd := range 5 {
		yes(t, k, gate.Call{Command: gate.Close, Fd: fd}, gate.Result{})
		no(t, k, gate.Call{Command: gate.Close, Fd: fd}, api.EBADF)
	}
	held(t, k, "1 3 1 []", "2 3 2 [1]", "3 3 1 [2]", "4 1 2 []", "5 1 1 []", "6 2 1 [5 4 3]", "7 2 1 [4 2]")
	yes(t, k, gate.Call{Command: gate.Run, Fd: 5, N: 9}, gate.Result{Value: 7})
	yes(t, k, gate.Call{Command: gate.Send, Fd: 5, N: 1}, gate.Result{})
	yes(t, k, gate.Call{Command: gate.Close, Fd: 5}, gate.Result{})
	held(t, k, "1 3 1 []", "2 3 2 [1]", "3 3 1 [2]", "4 1 2 []", "5 1 1 []", "6 2 1 [5 4 3]", "7 2 1 [4 2]")
	yes(t, k, gate.Call{Tenant: 1, Command: gate.Close}, gate.Result{})
	held(t, k, "1 3 1 []", "2 3 1 [1]", "4 1 1 []", "7 2 1 [4 2]")
	yes(t, k, gate.Call{Command: gate.Close, Fd: 6}, gate.Result{})
	held(t, k)
	// No number comes again.
	yes(t, k, gate.Call{Command: gate.Root}, fdOf(0))
	held(t, k, "8 3 1 []")
}

// P22.1: of two descriptors for one map a program has two slots; it holds the map once.
func TestOneMapByTwoSlots(t *testing.T) {
	k := rooted(t, rights.All())
	yes(t, k, gate.Call{Command: gate.MapCreate, Spec: array}, fdOf(1))
	yes(t, k, gate.Call{Command: gate.MapCreate, Spec: array}, fdOf(2))
	yes(t, k, gate.Call{Command: gate.Dup, Fd: 2}, fdOf(3))
	yes(t, k, gate.Call{Command: gate.ProgLoad, Ask: loader.Ask{Insns: slices.Concat(wideMap(4, 3), wideMap(4, 1), counting(2))}}, fdOf(4))
	held(t, k, "1 3 2 []", "2 1 2 []", "3 1 3 []", "4 2 1 [3 2 1]")
	l := k.Objects()
	if maps := l[3].Prog.Maps; !slices.Equal(maps, []*bmap.Map{l[2].Map, l[1].Map, l[2].Map}) {
		t.Error(maps)
	}
	yes(t, k, gate.Call{Command: gate.Run, Fd: 4, N: 20}, gate.Result{})
	yes(t, k, gate.Call{Command: gate.Run, Fd: 4, N: 20}, gate.Result{Value: 1})
	yes(t, k, gate.Call{Command: gate.Close, Fd: 2}, gate.Result{})
	no(t, k, gate.Call{Command: gate.Freeze, Fd: 3}, api.EBUSY)
	yes(t, k, gate.Call{Command: gate.Close, Fd: 4}, gate.Result{})
	held(t, k, "1 3 1 []", "2 1 1 []", "3 1 1 []")
	yes(t, k, gate.Call{Command: gate.Freeze, Fd: 3}, gate.Result{})
}

// P22.1, P3: the errors of a program, in their order.
func TestProgLoad(t *testing.T) {
	k := rooted(t, without(func(r *rights.Rights) { r.Programs, r.Helpers, r.Maps, r.Privileged = 7, 0xef, 0x3d, false }))
	yes(t, k, gate.Call{Command: gate.MapCreate, Spec: array}, fdOf(1))
	yes(t, k, gate.Call{Command: gate.Root, Rights: rights.All()}, fdOf(2))
	yes(t, k, gate.Call{Command: gate.MapCreate, Fd: 2, Spec: hash}, fdOf(3))
	yes(t, k, gate.Call{Command: gate.Root, Rights: without(func(r *rights.Rights) { r.Commands = 0xfd })}, fdOf(4))
	yes(t, k, gate.Call{Command: gate.ProgLoad, Ask: loader.Ask{Type: 2, Insns: counting(1)}}, fdOf(5))
	if o := k.Objects()[5]; o.Kind != gate.IsProg || o.Prog.Type != 2 || o.Prog.Privileged || o.Map != nil || o.Token != nil ||
		!slices.Equal(o.Holds, []int{2, 1}) || o.Prog.Token != k.Objects()[0].Token || o.Prog.Maps[0] != k.Objects()[1].Map {
		t.Errorf("%+v", o)
	}
	five := naming(8, 9, 10, 11, 12)
	for i, x := range []struct {
		fd   int
		a    loader.Ask
		want api.Errno
	}{
		{1, loader.Ask{Insns: five}, api.EBADF},
		{6, loader.Ask{Insns: end}, api.EBADF},
		{-1, loader.Ask{Insns: end}, api.EBADF},
		{4, loader.Ask{Insns: five}, api.EPERM},
		{4, loader.Ask{Insns: naming(0)}, api.EPERM},
		{4, loader.Ask{Insns: end, Type: 16}, api.EPERM},
		{0, loader.Ask{Insns: five, Type: 16}, api.E2BIG},
		{0, loader.Ask{Insns: naming(1, 0), Type: 16}, api.EBADF},
		{0, loader.Ask{Insns: naming(7), Type: 3}, api.EBADF},
		{0, loader.Ask{Insns: naming(5)}, api.EBADF},
		{0, loader.Ask{Insns: naming(-1)}, api.EBADF},
		{0, loader.Ask{Insns: naming(16)}, api.EBADF},
		{0, loader.Ask{Insns: naming(math.MaxInt32, 1)}, api.EBADF},
		{0, loader.Ask{Insns: naming(1), Type: 3}, api.EPERM},
		{0, loader.Ask{Insns: naming(1), Type: 16}, api.EINVAL},
		{0, loader.Ask{Insns: naming(3)}, api.EPERM},
		{0, loader.Ask{Insns: naming(1), Privileged: true}, api.EPERM},
		{0, loader.Ask{Insns: summing}, api.EPERM},
		{0, loader.Ask{Insns: []api.Insn{helper(6)}}, api.EINVAL},
		{0, loader.Ask{}, api.EINVAL},
		{0, loader.Ask{Insns: end[1:]}, api.EACCES},
		{0, loader.Ask{Insns: slices.Repeat(end, 129)}, api.E2BIG},
	} {
		t.Run(fmt.Sprint(i), func(t *testing.T) {
			no(t, k, gate.Call{Command: gate.ProgLoad, Fd: x.fd, Ask: x.a}, x.want)
		})
	}
	yes(t, k, gate.Call{Command: gate.ProgLoad, Fd: 2, Ask: loader.Ask{Insns: slices.Concat(summing, end[:0]), Privileged: true}}, fdOf(6))
	// The descriptors that a program names are its tenant's own.
	yes(t, k, gate.Call{Command: gate.Send, Fd: 2, N: 1}, gate.Result{})
	no(t, k, gate.Call{Tenant: 1, Command: gate.ProgLoad, Ask: loader.Ask{Insns: naming(1)}}, api.EBADF)
	yes(t, k, gate.Call{Command: gate.Send, Fd: 3, N: 1}, gate.Result{})
	yes(t, k, gate.Call{Tenant: 1, Command: gate.ProgLoad, Ask: loader.Ask{Insns: naming(1)}}, fdOf(2))
}

// addKey lets the key of a seed in.
func addKey(t *testing.T, k *gate.Kernel, seed string) {
	t.Helper()
	key := lamport.Key([]byte(seed))
	yes(t, k, gate.Call{Command: gate.AddKey, Key: key[:]}, gate.Result{})
}

// signedAsk is a program that names a frozen map like those of spec, signed by a seed.
func signedAsk(t *testing.T, seed string, spec bmap.Spec, fd int) loader.Ask {
	t.Helper()
	m, _ := bmap.New(spec)
	a := loader.Ask{Insns: naming(fd)}
	sum, err := loader.Sum(a, []*bmap.Map{m})
	if err != api.OK {
		t.Fatal(err)
	}
	a.Signature = lamport.Sign([]byte(seed), sum)
	return a
}

// P22.1, P5: a signature lets one program in, once.
func TestSignedProgram(t *testing.T) {
	k := rooted(t, signed())
	yes(t, k, gate.Call{Command: gate.MapCreate, Spec: array}, fdOf(1))
	a := signedAsk(t, "k", array, 1)
	no(t, k, gate.Call{Command: gate.ProgLoad, Ask: a}, api.EPERM)
	yes(t, k, gate.Call{Command: gate.Freeze, Fd: 1}, gate.Result{})
	no(t, k, gate.Call{Command: gate.ProgLoad, Ask: a}, api.EKEYREJECTED)
	addKey(t, k, "k")
	no(t, k, gate.Call{Command: gate.ProgLoad, Ask: loader.Ask{Insns: naming(1)}}, api.EINVAL)
	no(t, k, gate.Call{Command: gate.ProgLoad, Ask: loader.Ask{Insns: naming(1, 1), Signature: a.Signature}}, api.EKEYREJECTED)
	yes(t, k, gate.Call{Command: gate.ProgLoad, Ask: a}, fdOf(2))
	no(t, k, gate.Call{Command: gate.ProgLoad, Ask: a}, api.EKEYREJECTED)
	yes(t, k, gate.Call{Command: gate.Close, Fd: 2}, gate.Result{})
	no(t, k, gate.Call{Command: gate.ProgLoad, Ask: a}, api.EKEYREJECTED)
	key := lamport.Key([]byte("k"))
	no(t, k, gate.Call{Command: gate.AddKey, Key: key[:]}, api.EEXIST)
	if k.Keys() != 1 {
		t.Error(k.Keys())
	}
	// A token of which it was derived may be without it, not one that was derived of it.
	no(t, k, gate.Call{Command: gate.Derive, Rights: rights.All()}, api.EPERM)
}

// full takes all descriptors of a tenant that are free, by others for its descriptor 0.
func full(t *testing.T, k *gate.Kernel, tenant int) {
	t.Helper()
	for len(k.Fds(tenant)) < 16 {
		yes(t, k, gate.Call{Tenant: tenant, Command: gate.Dup}, fdOf(len(k.Fds(tenant))))
	}
}

// makers are calls of tenant 0 that make an object, by a token at 0 and a frozen Array at 1.
func makers(t *testing.T) []gate.Call {
	return []gate.Call{
		{Command: gate.Root, Rights: rights.All()},
		{Command: gate.MapCreate, Spec: hash},
		{Command: gate.Derive, Rights: signed()},
		{Command: gate.ProgLoad, Ask: signedAsk(t, "k", array, 1)},
	}
}

// P22.1: without a descriptor all other errors are told ahead of that.
func TestNoDescriptorLeft(t *testing.T) {
	k := rooted(t, signed())
	yes(t, k, gate.Call{Command: gate.MapCreate, Spec: array}, fdOf(1))
	yes(t, k, gate.Call{Command: gate.Freeze, Fd: 1}, gate.Result{})
	yes(t, k, gate.Call{Command: gate.MapCreate, Spec: array}, fdOf(2))
	addKey(t, k, "k")
	full(t, k, 0)
	for _, c := range makers(t) {
		no(t, k, c, api.EMFILE)
	}
	right := signedAsk(t, "k", array, 1)
	otherKey := signedAsk(t, "j", array, 1)
	for i, x := range []struct {
		c    gate.Call
		want api.Errno
	}{
		{gate.Call{Command: gate.Root, N: 1}, api.ENOENT},
		{gate.Call{Command: gate.Root, Rights: rights.Rights{Commands: 256}}, api.EPERM},
		{gate.Call{Command: gate.MapCreate, Fd: 1, Spec: hash}, api.EBADF},
		{gate.Call{Command: gate.MapCreate, Spec: bmap.Spec{Type: 6}}, api.EPERM},
		{gate.Call{Command: gate.MapCreate}, api.EINVAL},
		{gate.Call{Command: gate.Derive, Fd: 16}, api.EBADF},
		{gate.Call{Command: gate.Derive, N: 1}, api.ENOENT},
		{gate.Call{Command: gate.Derive, Rights: rights.All()}, api.EPERM},
		{gate.Call{Command: gate.ProgLoad, Fd: 1, Ask: right}, api.EBADF},
		{gate.Call{Command: gate.ProgLoad, Ask: loader.Ask{Insns: naming(1, 2, 3, 4, 5)}}, api.E2BIG},
		{gate.Call{Command: gate.ProgLoad, Ask: loader.Ask{Insns: naming(3)}}, api.EBADF},
		{gate.Call{Command: gate.ProgLoad, Ask: loader.Ask{Type: 4, Insns: end}}, api.EPERM},
		{gate.Call{Command: gate.ProgLoad, Ask: loader.Ask{Insns: end[:1]}}, api.EINVAL},
		{gate.Call{Command: gate.ProgLoad, Ask: loader.Ask{Insns: end[1:]}}, api.EACCES},
		{gate.Call{Command: gate.ProgLoad, Ask: signedAsk(t, "k", array, 2)}, api.EPERM},
		{gate.Call{Command: gate.ProgLoad, Ask: loader.Ask{Insns: naming(1), Signature: right.Signature[1:]}}, api.EINVAL},
		{gate.Call{Command: gate.ProgLoad, Ask: otherKey}, api.EKEYREJECTED},
		{gate.Call{Command: gate.ProgLoad, Ask: loader.Ask{Insns: end, Signature: right.Signature}}, api.EKEYREJECTED},
	} {
		t.Run(fmt.Sprint(i), func(t *testing.T) { no(t, k, x.c, x.want) })
	}
	// No key was spent, and no number.
	yes(t, k, gate.Call{Command: gate.Close, Fd: 15}, gate.Result{})
	yes(t, k, gate.Call{Command: gate.ProgLoad, Ask: right}, fdOf(15))
	if l := k.Objects(); l[len(l)-1].Id != 4 {
		t.Error(picture(k))
	}
	no(t, k, gate.Call{Command: gate.ProgLoad, Ask: right}, api.EKEYREJECTED)
}

// P22.1: without Signed nothing of keys is looked at, without a descriptor either.
func TestNoDescriptorLeftUnsigned(t *testing.T) {
	k := rooted(t, rights.All())
	full(t, k, 0)
	no(t, k, gate.Call{Command: gate.ProgLoad, Ask: loader.Ask{Insns: end}}, api.EMFILE)
	no(t, k, gate.Call{Command: gate.ProgLoad, Ask: loader.Ask{Insns: end, Signature: make([]byte, 2048)}}, api.EMFILE)
	no(t, k, gate.Call{Command: gate.ProgLoad, Ask: loader.Ask{Insns: end[1:]}}, api.EACCES)
}

// P22.1: 64 objects, and not one more; EMFILE is told ahead of ENOMEM, all others too.
func TestNoRoomForObjects(t *testing.T) {
	k := rooted(t, signed())
	yes(t, k, gate.Call{Command: gate.MapCreate, Spec: array}, fdOf(1))
	yes(t, k, gate.Call{Command: gate.Freeze, Fd: 1}, gate.Result{})
	addKey(t, k, "k")
	yes(t, k, gate.Call{Command: gate.Send, N: 1}, gate.Result{})
	yes(t, k, gate.Call{Command: gate.Send, N: 2}, gate.Result{})
	// Tokens that were derived twice keep those that they are of: so there are more objects than descriptors.
	for tenant := 1; tenant < 3; tenant++ {
		for fd := 1; fd < 16; fd++ {
			yes(t, k, gate.Call{Tenant: tenant, Command: gate.Derive, Rights: signed()}, fdOf(fd))
			if fd < 15 {
				yes(t, k, gate.Call{Tenant: tenant, Command: gate.Derive, Fd: fd, Rights: signed()}, fdOf(fd+1))
				yes(t, k, gate.Call{Tenant: tenant, Command: gate.Close, Fd: fd}, gate.Result{})
				yes(t, k, gate.Call{Tenant: tenant, Command: gate.Dup, Fd: fd + 1}, fdOf(fd))
				yes(t, k, gate.Call{Tenant: tenant, Command: gate.Close, Fd: fd + 1}, gate.Result{})
			}
		}
	}
	for len(k.Objects()) < 64 {
		yes(t, k, gate.Call{Command: gate.MapCreate, Spec: hash}, fdOf(len(k.Fds(0))))
	}
	for _, c := range makers(t) {
		no(t, k, c, api.ENOMEM)
	}
	no(t, k, gate.Call{Command: gate.Root, N: 1}, api.ENOENT)
	no(t, k, gate.Call{Command: gate.MapCreate}, api.EINVAL)
	no(t, k, gate.Call{Command: gate.Derive, Rights: rights.All()}, api.EPERM)
	no(t, k, gate.Call{Command: gate.ProgLoad, Ask: signedAsk(t, "j", array, 1)}, api.EKEYREJECTED)
	no(t, k, gate.Call{Tenant: 1, Command: gate.MapCreate, Spec: hash}, api.EMFILE)
	no(t, k, gate.Call{Tenant: 1, Command: gate.Derive, Rights: signed()}, api.EMFILE)
	// What makes no object is done all the same.
	yes(t, k, gate.Call{Command: gate.Dup}, fdOf(len(k.Fds(0))))
	yes(t, k, gate.Call{Command: gate.Send, N: 3}, gate.Result{})
	yes(t, k, gate.Call{Tenant: 1, Command: gate.Close, Fd: 15}, gate.Result{})
	last := k.Objects()[62].Id
	right := signedAsk(t, "k", array, 1)
	yes(t, k, gate.Call{Command: gate.ProgLoad, Ask: right}, fdOf(len(k.Fds(0))))
	if l := k.Objects(); len(l) != 64 || l[63].Id <= last {
		t.Error(picture(k))
	}
	no(t, k, gate.Call{Command: gate.ProgLoad, Ask: right}, api.EKEYREJECTED)
}

// P22.1: Sound looks at the objects as they are.
func TestSound(t *testing.T) {
	k := rooted(t, rights.All())
	yes(t, k, gate.Call{Command: gate.Derive, Rights: rights.All()}, fdOf(1))
	yes(t, k, gate.Call{Command: gate.ProgLoad, Fd: 1, Ask: loader.Ask{Insns: summing}}, fdOf(2))
	l := k.Objects()
	root, token, prog := l[0].Token, l[1].Token, l[2].Prog
	for i, x := range []struct{ spoil, mend func() }{
		{func() { root.Rights.Maps = 64 }, func() { root.Rights = rights.All() }},
		{func() { root.Rights.Maps = 1 }, func() { root.Rights = rights.All() }},
		{func() { token.Space = 1 }, func() { token.Space = 0 }},
		{func() { token.Rights.Commands |= 256 }, func() { token.Rights = rights.All() }},
		{func() { root.Rights.Helpers, token.Rights.Helpers = 8, 8 }, func() { root.Rights, token.Rights = rights.All(), rights.All() }},
		{func() { prog.Type = 4 }, func() { prog.Type = 0 }},
		{func() { prog.Token = nil }, func() { prog.Token = token }},
	} {
		x.spoil()
		if k.Sound() {
			t.Errorf("%d: sound", i)
		}
		x.mend()
		if !k.Sound() {
			t.Errorf("%d: not sound", i)
		}
	}
}

// P22.5: what is handed in stays, its spare room too, and isn't kept; answers are new memory.
func TestArgumentsStay(t *testing.T) {
	k := rooted(t, signed())
	yes(t, k, gate.Call{Command: gate.MapCreate, Spec: hash}, fdOf(1))
	key, value := []byte("ab"), []byte("cd")
	yes(t, k, gate.Call{Command: gate.Update, Fd: 1, Key: key[:1], Value: value[:1]}, gate.Result{})
	if string(key)+string(value) != "abcd" {
		t.Error("an argument changed")
	}
	clear(key)
	clear(value)
	found := k.Do(gate.Call{Command: gate.Lookup, Fd: 1, Key: []byte("a")})
	clear(found.Bytes)
	yes(t, k, gate.Call{Command: gate.Lookup, Fd: 1, Key: []byte("a")}, gate.Result{Bytes: []byte("c")})
	yes(t, k, gate.Call{Command: gate.MapCreate, Spec: array}, fdOf(2))
	yes(t, k, gate.Call{Command: gate.Freeze, Fd: 2}, gate.Result{})
	public := lamport.Key([]byte("k"))
	yes(t, k, gate.Call{Command: gate.AddKey, Key: public[:]}, gate.Result{})
	clear(public[:])
	a := signedAsk(t, "k", array, 2)
	insns, signature := append(slices.Clone(a.Insns), end...), slices.Clone(a.Signature)
	whole := slices.Clone(insns)
	a.Insns = insns[:len(a.Insns)]
	yes(t, k, gate.Call{Command: gate.ProgLoad, Ask: a}, fdOf(3))
	if !slices.Equal(insns, whole) || !bytes.Equal(a.Signature, signature) {
		t.Error("an argument changed")
	}
	clear(insns)
	yes(t, k, gate.Call{Command: gate.Run, Fd: 3, N: 9}, gate.Result{Value: 7})
	random := []uint64{1, 2, 3}
	yes(t, k, gate.Call{Command: gate.Run, Fd: 3, N: 9, Random: random[:2]}, gate.Result{Value: 7})
	if !slices.Equal(random, []uint64{1, 2, 3}) {
		t.Error("an argument changed")
	}
	before := picture(k)
	for _, o := range k.Objects() {
		clear(o.Holds)
	}
	clear(k.Objects())
	clear(k.Fds(0))
	if after := picture(k); after != before || !k.Sound() {
		t.Errorf("of\n%sit made\n%s", before, after)
	}
}

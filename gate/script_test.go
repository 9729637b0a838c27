package gate_test

import (
	"bytes"
	"fmt"
	"math"
	"math/rand/v2"
	"slices"
	"testing"

	"tipstaff/api"
	"tipstaff/bmap"
	"tipstaff/gate"
	"tipstaff/lamport"
	"tipstaff/loader"
	"tipstaff/registry"
	"tipstaff/rights"
	"tipstaff/space"
	"tipstaff/token"
	"tipstaff/vm"
)

// thing is an object of the model.
type thing struct {
	m     *bmap.Map
	p     *loader.Prog
	x     *token.Token
	names []int
}

// model is a kernel told anew: it counts nothing, and asks what can be come to from the descriptors.
type model struct {
	fds    [4][16]int
	things map[int]*thing
	last   int
	tree   *space.Tree
	keys   [][32]byte
	spent  []bool
}

func newModel() *model { return &model{things: map[int]*thing{}, tree: space.New()} }

// registry is made anew each time, so that what was spent for nothing is spent no more.
func (m *model) registry() *registry.Registry {
	r := registry.New()
	for i, key := range m.keys {
		r.Add(key)
		if m.spent[i] {
			r.Spend(i)
		}
	}
	return r
}

func (m *model) sweep() {
	var live []int
	for _, fds := range m.fds {
		for _, id := range fds {
			if id != 0 {
				live = append(live, id)
			}
		}
	}
	for i := 0; i < len(live); i++ {
		live = append(live, m.things[live[i]].names...)
	}
	for id := range m.things {
		if !slices.Contains(live, id) {
			delete(m.things, id)
		}
	}
}

func (m *model) get(tenant, fd int) *thing {
	if fd < 0 || fd > 15 || m.fds[tenant][fd] == 0 {
		return &thing{}
	}
	return m.things[m.fds[tenant][fd]]
}

// open gives a tenant a descriptor.
func (m *model) open(tenant, id int) (int, api.Errno) {
	fd := slices.Index(m.fds[tenant][:], 0)
	if fd < 0 {
		return 0, api.EMFILE
	}
	m.fds[tenant][fd] = id
	return fd, api.OK
}

func (m *model) make(tenant int, x *thing) gate.Result {
	if !slices.Contains(m.fds[tenant][:], 0) {
		return gate.Result{Err: api.EMFILE}
	}
	if len(m.things) == 64 {
		return gate.Result{Err: api.ENOMEM}
	}
	m.last++
	m.things[m.last] = x
	fd, _ := m.open(tenant, m.last)
	return gate.Result{Fd: fd}
}

func (m *model) do(c gate.Call) gate.Result {
	defer m.sweep()
	if c.Tenant < 0 || c.Tenant > 3 {
		return gate.Result{Err: api.EINVAL}
	}
	x := m.get(c.Tenant, c.Fd)
	switch c.Command {
	case gate.MapCreate, gate.ProgLoad, gate.Derive:
		if x.x == nil {
			return gate.Result{Err: api.EBADF}
		}
		if x.x.Rights.Commands>>c.Command&1 == 0 {
			return gate.Result{Err: api.EPERM}
		}
		return m.by(c, x.x)
	case gate.Update, gate.Lookup, gate.Delete, gate.Freeze:
		if x.m == nil {
			return gate.Result{Err: api.EBADF}
		}
		return m.toMap(c, x.m)
	case gate.Run:
		if x.p == nil {
			return gate.Result{Err: api.EBADF}
		}
		r := vm.Run(x.p.Insns, vm.World{Ctx: c.Ctx, Maps: x.p.Maps, Clock: c.Clock, Random: c.Random, Fuel: c.N})
		return gate.Result{Err: r.Err, Value: r.Value}
	case gate.Close, gate.Dup, gate.Send:
		if x.m == nil && x.p == nil && x.x == nil {
			return gate.Result{Err: api.EBADF}
		}
		return m.toAny(c)
	case gate.AddKey, gate.Root, gate.NewSpace:
		if c.Tenant != 0 {
			return gate.Result{Err: api.EPERM}
		}
		return m.chief(c)
	}
	return gate.Result{Err: api.EINVAL}
}

// by makes an object by a token.
func (m *model) by(c gate.Call, x *token.Token) gate.Result {
	up := m.fds[c.Tenant][c.Fd]
	switch c.Command {
	case gate.MapCreate:
		if err := token.Map(x, c.Spec.Type); err != api.OK {
			return gate.Result{Err: err}
		}
		made, err := bmap.New(c.Spec)
		if err != api.OK {
			return gate.Result{Err: err}
		}
		return m.make(c.Tenant, &thing{m: made})
	case gate.Derive:
		made, err := token.Derive(m.tree, x, c.N, c.Rights)
		if err != api.OK {
			return gate.Result{Err: err}
		}
		return m.make(c.Tenant, &thing{x: made, names: []int{up}})
	}
	fds, err := loader.Fds(c.Ask)
	var maps []*bmap.Map
	var names []int
	for _, fd := range fds {
		y := m.get(c.Tenant, int(fd))
		if y.m == nil {
			return gate.Result{Err: api.EBADF}
		}
		maps = append(maps, y.m)
		if id := m.fds[c.Tenant][fd]; !slices.Contains(names, id) {
			names = append(names, id)
		}
	}
	r := m.registry()
	var p *loader.Prog
	if err == api.OK {
		p, err = loader.Load(c.Ask, maps, x, r)
	}
	if err != api.OK {
		return gate.Result{Err: err}
	}
	made := m.make(c.Tenant, &thing{p: p, names: append(names, up)})
	if made.Err == api.OK {
		for i, key := range m.keys {
			m.spent[i] = !r.Has(key)
		}
	}
	return made
}

func (m *model) toMap(c gate.Call, x *bmap.Map) gate.Result {
	switch c.Command {
	case gate.Update:
		return gate.Result{Err: x.Update(c.Key, c.Value, c.Flags)}
	case gate.Delete:
		return gate.Result{Err: x.Delete(c.Key)}
	case gate.Lookup:
		b, err := x.Lookup(c.Key)
		return gate.Result{Err: err, Bytes: b}
	}
	for _, y := range m.things {
		if y.p != nil && slices.Contains(y.p.Maps, x) {
			return gate.Result{Err: api.EBUSY}
		}
	}
	return gate.Result{Err: x.Freeze()}
}

func (m *model) toAny(c gate.Call) gate.Result {
	id := m.fds[c.Tenant][c.Fd]
	switch c.Command {
	case gate.Close:
		m.fds[c.Tenant][c.Fd] = 0
		return gate.Result{}
	case gate.Dup:
		fd, err := m.open(c.Tenant, id)
		return gate.Result{Err: err, Fd: fd}
	}
	if c.N < 0 || c.N > 3 {
		return gate.Result{Err: api.EINVAL}
	}
	_, err := m.open(c.N, id)
	return gate.Result{Err: err}
}

func (m *model) chief(c gate.Call) gate.Result {
	switch c.Command {
	case gate.NewSpace:
		n, err := m.tree.Make(c.N)
		return gate.Result{Err: err, Value: uint64(n)}
	case gate.Root:
		made, err := token.Root(m.tree, c.N, c.Rights)
		if err != api.OK {
			return gate.Result{Err: err}
		}
		return m.make(0, &thing{x: made})
	}
	switch {
	case len(c.Key) != 32:
		return gate.Result{Err: api.EINVAL}
	case slices.Contains(m.keys, [32]byte(c.Key)):
		return gate.Result{Err: api.EEXIST}
	case len(m.keys) == 32:
		return gate.Result{Err: api.ENOSPC}
	}
	m.keys, m.spent = append(m.keys, [32]byte(c.Key)), append(m.spent, false)
	return gate.Result{}
}

// lines is what a picture's lines of the kernel's objects and descriptors must be.
func (m *model) lines() (objects []string, fds [4][][2]int) {
	named := map[int]int{}
	for tenant := range 4 {
		for fd, id := range m.fds[tenant] {
			if id != 0 {
				named[id]++
				fds[tenant] = append(fds[tenant], [2]int{fd, id})
			}
		}
	}
	for _, x := range m.things {
		for _, id := range x.names {
			named[id]++
		}
	}
	for id := 1; id <= m.last; id++ {
		if x := m.things[id]; x != nil {
			kind := gate.IsToken
			if x.m != nil {
				kind = gate.IsMap
			} else if x.p != nil {
				kind = gate.IsProg
			}
			objects = append(objects, fmt.Sprint(id, kind, named[id], x.names))
		}
	}
	return objects, fds
}

// script makes calls by chance.
type script struct {
	chance *rand.Rand
	k      *gate.Kernel
}

func (s *script) n(n int) int { return s.chance.IntN(n) }

// fd is a descriptor of a tenant of a kind, mostly.
func (s *script) fd(tenant, kind int) int {
	var fit []int
	for _, pair := range s.k.Fds(tenant) {
		for _, o := range s.k.Objects() {
			if o.Id == pair[1] && (kind == 0 || o.Kind == kind) {
				fit = append(fit, pair[0])
			}
		}
	}
	if len(fit) == 0 || s.n(30) == 0 {
		return s.n(18) - 1
	}
	return fit[s.n(len(fit))]
}

func (s *script) rights() rights.Rights {
	r := rights.All()
	for _, part := range []*uint16{&r.Commands, &r.Programs, &r.Maps, &r.Helpers} {
		if s.n(8) == 0 {
			*part &^= 1 << s.n(9)
		}
	}
	r.Privileged, r.Signed = s.n(4) > 0, s.n(2) == 0
	if s.n(40) == 0 {
		r.Maps |= 64
	}
	return r
}

func (s *script) spec() bmap.Spec {
	x := []bmap.Spec{
		array, queue, array, hash, hash, hash, {Type: api.Stack, Value: 3, Entries: 2},
		{Type: api.LRU, Key: 2, Value: 2, Entries: 2}, {Type: api.Prefix, Key: 5, Value: 8, Entries: 3},
	}[s.n(9)]
	if s.n(30) == 0 {
		x.Type = s.n(20) - 2
	}
	return x
}

// program names descriptors of maps that the tenant has, mostly.
func (s *script) program(tenant int) []api.Insn {
	fd := s.fd(tenant, gate.IsMap)
	switch s.n(13) {
	case 0, 12:
		return end
	case 1, 2:
		return naming(fd, s.fd(tenant, gate.IsMap))
	case 3, 4, 5:
		return counting(fd)
	case 6:
		return pushing(fd)
	case 7:
		return summing
	case 8:
		return []api.Insn{movTo(0, 9), {Op: 0x17, Dst: 0, Imm: 1}, {Op: 0x55, Dst: 0, Off: -2}, {Op: 0x95}}
	case 9:
		return naming(0, 1, 2, 3, s.n(6))
	case 10:
		return end[1:]
	}
	return slices.Concat([]api.Insn{{Op: uint8(s.n(256)), Dst: uint8(s.n(11)), Src: uint8(s.n(3))}}, end)
}

func (s *script) ask(tenant int) loader.Ask {
	a := loader.Ask{Type: s.n(4), Insns: s.program(tenant), Privileged: s.n(3) == 0}
	if s.n(3) > 0 {
		a.Signature = s.signature(tenant, a)
	}
	if s.n(40) == 0 {
		a.Type = s.n(30) - 5
	}
	return a
}

// signature is one of a seed for what is asked for, as the maps are now.
func (s *script) signature(tenant int, a loader.Ask) []byte {
	fds, _ := loader.Fds(a)
	var maps []*bmap.Map
	for _, fd := range fds {
		for _, pair := range s.k.Fds(tenant) {
			for _, o := range s.k.Objects() {
				if pair == [2]int{int(fd), o.Id} {
					maps = append(maps, o.Map)
				}
			}
		}
	}
	sum, _ := loader.Sum(a, maps)
	return lamport.Sign([]byte{byte(s.n(8))}, sum)
}

func (s *script) bytes(most int) []byte {
	b := make([]byte, s.n(most+1))
	for i := range b {
		b[i] = byte(s.n(3))
	}
	return b
}

func (s *script) call() gate.Call {
	c := gate.Call{Tenant: s.n(4), Command: s.n(14), Spec: s.spec(), Rights: s.rights(), Flags: uint64(s.n(4)), N: s.n(3)}
	c.Clock, c.Random = s.chance.Uint64(), []uint64{s.chance.Uint64()}
	if s.n(12) == 0 {
		c.Command = gate.ProgLoad
	}
	if s.n(60) == 0 {
		c.Tenant, c.Command, c.N = s.n(7)-2, s.n(17)-2, s.n(12)-3
	}
	if c.Tenant < 0 || c.Tenant > 3 {
		return c
	}
	kind := 0
	switch c.Command {
	case gate.MapCreate, gate.ProgLoad, gate.Derive:
		kind = gate.IsToken
	case gate.Update, gate.Lookup, gate.Delete, gate.Freeze:
		kind = gate.IsMap
	case gate.Run:
		kind, c.N = gate.IsProg, s.n(40)
	case gate.Send:
		c.N = s.n(4)
	case gate.AddKey:
		key := lamport.Key([]byte{byte(s.n(8))})
		c.Key = key[:]
	}
	c.Fd = s.fd(c.Tenant, kind)
	if c.Command == gate.ProgLoad {
		c.Ask = s.ask(c.Tenant)
	}
	if kind == gate.IsMap {
		s.entry(&c)
	}
	return c
}

// entry gives a call a key and a value that fit its map, mostly.
func (s *script) entry(c *gate.Call) {
	for _, pair := range s.k.Fds(c.Tenant) {
		for _, o := range s.k.Objects() {
			if pair == [2]int{c.Fd, o.Id} && o.Map != nil {
				spec := o.Map.Spec()
				c.Key, c.Value = make([]byte, spec.Key), make([]byte, spec.Value)
				c.Value[0] = byte(s.n(256))
				if len(c.Key) > 0 {
					c.Key[0] = byte(s.n(3))
				}
			}
		}
	}
	if s.n(10) == 0 {
		c.Key = s.bytes(16)
	}
	if s.n(10) == 0 {
		c.Value = s.bytes(64)
	}
}

// same: does a kernel show what the model has?
func same(t *testing.T, k *gate.Kernel, m *model, c gate.Call) {
	t.Helper()
	objects, fds := m.lines()
	var got []string
	for _, o := range k.Objects() {
		got = append(got, fmt.Sprint(o.Id, o.Kind, o.Held, o.Holds))
		x := m.things[o.Id]
		if x == nil || (o.Map == nil) != (x.m == nil) || (o.Prog == nil) != (x.p == nil) || (o.Token == nil) != (x.x == nil) {
			t.Fatalf("%+v: %+v", c, o)
		}
		if x.m != nil && (o.Map.Sum() != x.m.Sum() || o.Map.Frozen() != x.m.Frozen()) || x.p != nil && o.Prog.Sum != x.p.Sum {
			t.Fatalf("%+v: %+v", c, o)
		}
	}
	if !slices.Equal(got, objects) || k.Spaces() != m.tree.Len() || k.Keys() != len(m.keys) || !k.Sound() {
		t.Fatalf("%+v: %q, not %q", c, got, objects)
	}
	for tenant := range 4 {
		if !slices.Equal(k.Fds(tenant), fds[tenant]) {
			t.Fatalf("%+v: %d: %d, not %d", c, tenant, k.Fds(tenant), fds[tenant])
		}
	}
}

// P22.1, P22.2, P22.3, P2, P3, P5: scripts of calls by chance, held against a model.
func TestScripts(t *testing.T) {
	errors, spent := map[int]map[api.Errno]int{}, 0
	for seed := range uint64(60) {
		s := &script{chance: rand.New(rand.NewPCG(22, seed)), k: gate.New()}
		m := newModel()
		for i := range 300 {
			c := s.call()
			switch tenant := i % 30; {
			case tenant == 0 && i%60 == 0:
				c = gate.Call{Command: gate.Root, Rights: rights.All()}
			case tenant == 0:
				c = gate.Call{Command: gate.Root, Rights: signed()}
			case tenant < 4:
				c = gate.Call{Command: gate.Send, Fd: s.fd(0, gate.IsToken), N: tenant}
			case tenant == 4:
				key := lamport.Key([]byte{byte(i / 30)})
				c = gate.Call{Command: gate.AddKey, Key: key[:]}
			}
			before := picture(s.k)
			got, want := s.k.Do(c), m.do(c)
			if got.Err != want.Err || got.Fd != want.Fd || got.Value != want.Value || !bytes.Equal(got.Bytes, want.Bytes) {
				t.Fatalf("%+v: %+v, not %+v", c, got, want)
			}
			if got.Err == api.EFAULT {
				t.Fatalf("%+v: a fault", c)
			}
			if got.Err != api.OK && c.Command != gate.Run && picture(s.k) != before {
				t.Fatalf("%+v: %+v, and of\n%sit made\n%s", c, got, before, picture(s.k))
			}
			same(t, s.k, m, c)
			if errors[c.Command] == nil {
				errors[c.Command] = map[api.Errno]int{}
			}
			errors[c.Command][got.Err]++
		}
		for _, gone := range m.spent {
			if gone {
				spent++
			}
		}
	}
	for _, command := range allSeen {
		if errors[command][api.OK] < 10 || len(errors[command]) < 2 {
			t.Errorf("the scripts tell little of %d: %v", command, errors[command])
		}
	}
	if spent < 20 {
		t.Errorf("%d keys alone were spent", spent)
	}
	for _, err := range []api.Errno{api.EPERM, api.E2BIG, api.EBADF, api.EACCES, api.EINVAL, api.EMFILE, api.EKEYREJECTED} {
		if errors[gate.ProgLoad][err] == 0 {
			t.Errorf("no program had %d: %v", err, errors[gate.ProgLoad])
		}
	}
}

// own is a script of tenant 1 alone, by what it made itself: each call with what it was told.
func own(s *script) gate.Call {
	for {
		c := s.call()
		c.Tenant = 1
		c.Fd = s.fd(1, 0)
		switch c.Command {
		case gate.Send:
			continue
		case gate.ProgLoad, gate.MapCreate, gate.Derive:
			c.Fd = s.fd(1, gate.IsToken)
			c.Rights.Signed, c.Ask = false, s.ask(1)
		case gate.Update, gate.Lookup, gate.Delete, gate.Freeze:
			c.Fd = s.fd(1, gate.IsMap)
			s.entry(&c)
		case gate.Run:
			c.Fd, c.N = s.fd(1, gate.IsProg), s.n(40)
		}
		return c
	}
}

// tenants is a kernel whose tenants 0 and 1 each have a root, and namespaces 1 and 2.
func tenants(t *testing.T) *gate.Kernel {
	t.Helper()
	k := rooted(t, rights.All())
	yes(t, k, gate.Call{Command: gate.NewSpace}, gate.Result{Value: 1})
	yes(t, k, gate.Call{Command: gate.NewSpace, N: 1}, gate.Result{Value: 2})
	for tenant := 1; tenant < 4; tenant++ {
		yes(t, k, gate.Call{Command: gate.Send, N: tenant}, gate.Result{})
	}
	return k
}

// P22.4, P6: tenant 1 is told the same, whatever the others do beside it, and however their calls come between its own.
func TestApart(t *testing.T) {
	for seed := range uint64(40) {
		alone := tenants(t)
		s := &script{chance: rand.New(rand.NewPCG(4, seed)), k: alone}
		var calls []gate.Call
		var told []gate.Result
		for range 120 {
			c := own(s)
			calls, told = append(calls, c), append(told, alone.Do(c))
		}
		k := tenants(t)
		others := &script{chance: rand.New(rand.NewPCG(5, seed)), k: k}
		for i, c := range calls {
			for range others.n(4) {
				if x, ok := another(others); ok {
					k.Do(x)
				}
			}
			got, want := k.Do(c), told[i]
			if got.Err == api.ENOMEM || want.Err == api.ENOMEM {
				t.Fatal("too many objects: the script tells nothing")
			}
			if got.Err != want.Err || got.Fd != want.Fd || got.Value != want.Value || !bytes.Equal(got.Bytes, want.Bytes) {
				t.Fatalf("%d, %+v: %+v, alone %+v", i, c, got, want)
			}
		}
	}
}

// another is a call of another tenant, that sends tenant 1 nothing, and leaves it room for objects.
func another(s *script) (gate.Call, bool) {
	c := s.call()
	makes := c.Command < gate.Update || c.Command == gate.Root
	if c.Tenant == 1 || c.Command == gate.Send && c.N == 1 || c.Command == gate.NewSpace || makes && len(s.k.Objects()) > 35 {
		return gate.Call{}, false
	}
	return c, true
}

// P22.1, P1: calls with anything in them end, and the kernel stays sound.
func TestAnything(t *testing.T) {
	chance := rand.New(rand.NewPCG(1, 22))
	far := []int{0, 0, 0, 1, 2, 3, 15, 16, -1, math.MaxInt, math.MinInt, 1 << 32}
	any := func() int { return far[chance.IntN(len(far))] }
	k := tenants(t)
	for range 20000 {
		c := gate.Call{
			Tenant: any(), Command: chance.IntN(16) - 1, Fd: any(), N: any(),
			Spec:   bmap.Spec{Type: any(), Key: any(), Value: any(), Entries: any()},
			Rights: rights.Rights{Commands: uint16(any()), Maps: uint16(any()), Privileged: any() > 0, Signed: any() > 0},
			Ask: loader.Ask{Type: any(), Privileged: any() > 0, Signature: make([]byte, chance.IntN(2)*2048), Insns: []api.Insn{
				{Op: uint8(chance.Uint32()), Dst: uint8(any()), Src: uint8(any()), Off: int16(any()), Imm: int32(any())},
				{Op: uint8(chance.Uint32()) & 0x9f, Dst: uint8(any()), Imm: int32(any())}, {Op: 0x95},
			}},
			Key: make([]byte, chance.IntN(40)), Value: make([]byte, chance.IntN(70)), Flags: uint64(any()),
		}
		if r := k.Do(c); r.Err == api.EFAULT || r.Err != api.OK && (r.Fd != 0 || r.Value != 0 || r.Bytes != nil) || !k.Sound() {
			t.Fatalf("%+v: %+v", c, r)
		}
	}
}

package gate

import (
	"slices"

	"tipstaff/api"
	"tipstaff/bmap"
	"tipstaff/loader"
	"tipstaff/registry"
	"tipstaff/token"
	"tipstaff/vm"
)

// keySize is how many bytes a key of the registry has.
const keySize = 32

// chief is the tenant that alone makes roots and namespaces, and lets keys in.
const chief = 0

func (k *Kernel) mapCreate(c Call) Result {
	t, err := k.entitled(c)
	if err != api.OK {
		return Result{Err: err}
	}
	if err := token.Map(t.Token, c.Spec.Type); err != api.OK {
		return Result{Err: err}
	}
	m, err := bmap.New(c.Spec)
	if err != api.OK {
		return Result{Err: err}
	}
	return k.put(c.Tenant, Object{Kind: IsMap, Map: m})
}

func (k *Kernel) progLoad(c Call) Result {
	t, err := k.entitled(c)
	if err != api.OK {
		return Result{Err: err}
	}
	maps, holds, err := k.mapsOf(c)
	if err != api.OK {
		return Result{Err: err}
	}
	holds = append(holds, t.Id)
	if lack := k.room(c.Tenant, holds); lack != api.OK {
		if err := k.wouldLoad(c.Ask, maps, t.Token); err != api.OK {
			return Result{Err: err}
		}
		return Result{Err: lack}
	}
	p, err := loader.Load(c.Ask, maps, t.Token, k.keys)
	if err != api.OK {
		return Result{Err: err}
	}
	return k.put(c.Tenant, Object{Kind: IsProg, Prog: p, Holds: holds})
}

// mapsOf is the maps that a call's program names, by slots, and the numbers of them, each once.
func (k *Kernel) mapsOf(c Call) ([]*bmap.Map, []int, api.Errno) {
	fds, err := loader.Fds(c.Ask)
	if err != api.OK {
		return nil, nil, err
	}
	var maps []*bmap.Map
	var ids []int
	for _, fd := range fds {
		o, err := k.objectOf(c.Tenant, int(fd), IsMap)
		if err != api.OK {
			return nil, nil, err
		}
		maps = append(maps, o.Map)
		// Two descriptors may stand for one map: the program names it by two slots, and holds it once.
		if !slices.Contains(ids, o.Id) {
			ids = append(ids, o.Id)
		}
	}
	return maps, ids, api.OK
}

// wouldLoad tells what is wrong with a program for which there is no room, if something is. It spends no key: the
// program is tried with a registry that has none, which only what is right in all else comes to.
func (k *Kernel) wouldLoad(a loader.Ask, maps []*bmap.Map, t *token.Token) api.Errno {
	_, err := loader.Load(a, maps, t, registry.New())
	if err != api.EKEYREJECTED {
		return err
	}
	sum, _ := loader.Sum(a, maps)
	_, err = k.keys.Find(sum, a.Signature)
	return err
}

func (k *Kernel) derive(c Call) Result {
	up, err := k.entitled(c)
	if err != api.OK {
		return Result{Err: err}
	}
	t, err := token.Derive(k.tree, up.Token, c.N, c.Rights)
	if err != api.OK {
		return Result{Err: err}
	}
	return k.put(c.Tenant, Object{Kind: IsToken, Token: t, Holds: []int{up.Id}})
}

// entitled is the token of a call's descriptor, if it may that command.
func (k *Kernel) entitled(c Call) (Object, api.Errno) {
	t, err := k.find(c, IsToken)
	if err != api.OK {
		return Object{}, err
	}
	if err := token.Command(t.Token, c.Command); err != api.OK {
		return Object{}, err
	}
	return t, api.OK
}

// entry does what is asked for of a map's entry.
func (k *Kernel) entry(c Call) Result {
	o, err := k.find(c, IsMap)
	if err != api.OK {
		return Result{Err: err}
	}
	switch c.Command {
	case Update:
		return Result{Err: o.Map.Update(c.Key, c.Value, c.Flags)}
	case Delete:
		return Result{Err: o.Map.Delete(c.Key)}
	}
	value, err := o.Map.Lookup(c.Key)
	return Result{Err: err, Bytes: value}
}

func (k *Kernel) freeze(c Call) Result {
	o, err := k.find(c, IsMap)
	if err != api.OK {
		return Result{Err: err}
	}
	// A program was found safe with the map as it was: what writes into it couldn't be done any more.
	if k.inProg(o.Id) {
		return Result{Err: api.EBUSY}
	}
	return Result{Err: o.Map.Freeze()}
}

// inProg: does a program hold an object?
func (k *Kernel) inProg(id int) bool {
	return slices.ContainsFunc(k.Objects(), func(o Object) bool {
		return o.Kind == IsProg && slices.Contains(o.Holds, id)
	})
}

func (k *Kernel) run(c Call) Result {
	o, err := k.find(c, IsProg)
	if err != api.OK {
		return Result{Err: err}
	}
	r := vm.Run(o.Prog.Insns, vm.World{Ctx: c.Ctx, Maps: o.Prog.Maps, Clock: c.Clock, Random: c.Random, Fuel: c.N})
	return Result{Err: r.Err, Value: r.Value}
}

func (k *Kernel) close(c Call) Result {
	id, err := k.fds[c.Tenant].Close(c.Fd)
	if err != api.OK {
		return Result{Err: api.EBADF}
	}
	k.drop(id)
	return Result{}
}

func (k *Kernel) dup(c Call) Result {
	o, err := k.find(c, anyKind)
	if err != api.OK {
		return Result{Err: err}
	}
	fd, err := k.share(c.Tenant, o.Id)
	return Result{Err: err, Fd: fd}
}

func (k *Kernel) send(c Call) Result {
	o, err := k.find(c, anyKind)
	if err != api.OK {
		return Result{Err: err}
	}
	if !isTenant(c.N) {
		return Result{Err: api.EINVAL}
	}
	_, err = k.share(c.N, o.Id)
	return Result{Err: err}
}

func (k *Kernel) addKey(c Call) Result {
	if c.Tenant != chief {
		return Result{Err: api.EPERM}
	}
	if len(c.Key) != keySize {
		return Result{Err: api.EINVAL}
	}
	return Result{Err: k.keys.Add([keySize]byte(c.Key))}
}

func (k *Kernel) root(c Call) Result {
	if c.Tenant != chief {
		return Result{Err: api.EPERM}
	}
	t, err := token.Root(k.tree, c.N, c.Rights)
	if err != api.OK {
		return Result{Err: err}
	}
	return k.put(c.Tenant, Object{Kind: IsToken, Token: t})
}

func (k *Kernel) newSpace(c Call) Result {
	if c.Tenant != chief {
		return Result{Err: api.EPERM}
	}
	n, err := k.tree.Make(c.N)
	return Result{Err: err, Value: uint64(n)}
}

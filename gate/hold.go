package gate

import "tipstaff/api"

// mostHeld is how often an object may be held.
const mostHeld = 1000

// anyKind is asked for where each kind is right.
const anyKind = 0

// find is the object of a call's descriptor, if it is of a kind.
func (k *Kernel) find(c Call, kind int) (Object, api.Errno) {
	return k.objectOf(c.Tenant, c.Fd, kind)
}

func (k *Kernel) objectOf(tenant, fd, kind int) (Object, api.Errno) {
	id, err := k.fds[tenant].Get(fd)
	if err != api.OK {
		return Object{}, api.EBADF
	}
	o, err := k.objects.Get(id)
	if err != api.OK || kind != anyKind && o.Kind != kind {
		return Object{}, api.EBADF
	}
	o.Id = id
	return o, api.OK
}

// room: may a tenant have a new object, that holds others?
func (k *Kernel) room(tenant int, holds []int) api.Errno {
	if k.fds[tenant].Free() == 0 {
		return api.EMFILE
	}
	if len(k.objects.Live()) >= api.MaxObjects {
		return api.ENOMEM
	}
	for _, id := range holds {
		if k.objects.Held(id) >= mostHeld {
			return api.ENOSPC
		}
	}
	return api.OK
}

// put gives a tenant a new object. It looks for room ahead: a number that an object had for a moment never comes again,
// so what is refused mustn't be made first.
func (k *Kernel) put(tenant int, o Object) Result {
	if err := k.room(tenant, o.Holds); err != api.OK {
		return Result{Err: err}
	}
	for _, id := range o.Holds {
		k.objects.Hold(id)
	}
	id, _ := k.objects.Make(o)
	fd, _ := k.fds[tenant].Open(id)
	return Result{Fd: fd}
}

// share gives a tenant a descriptor more for an object that is there.
func (k *Kernel) share(tenant, id int) (int, api.Errno) {
	if k.fds[tenant].Free() == 0 {
		return 0, api.EMFILE
	}
	if err := k.objects.Hold(id); err != api.OK {
		return 0, err
	}
	return k.fds[tenant].Open(id)
}

// drop holds an object once less; what is gone then holds nothing any more.
func (k *Kernel) drop(id int) {
	for waiting := []int{id}; len(waiting) > 0; waiting = waiting[1:] {
		o, _ := k.objects.Get(waiting[0])
		if gone, _ := k.objects.Drop(waiting[0]); gone {
			waiting = append(waiting, o.Holds...)
		}
	}
}

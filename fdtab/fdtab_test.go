package fdtab_test

import (
	"math"
	"math/rand/v2"
	"slices"
	"testing"

	"tipstaff/api"
	"tipstaff/fdtab"
)

// filled is a table of that size with these objects behind descriptors 0, 1 and so on.
func filled(t *testing.T, size int, ids ...int) *fdtab.Table {
	t.Helper()
	x, e := fdtab.New(size)
	if x == nil || e != api.OK {
		t.Fatalf("New(%d): %v, %d", size, x, e)
	}
	for fd, id := range ids {
		opens(t, x, id, fd)
	}
	return x
}

func opens(t *testing.T, x *fdtab.Table, id, fd int) {
	t.Helper()
	if at, e := x.Open(id); at != fd || e != api.OK {
		t.Errorf("Open(%d): %d, %d, not %d", id, at, e, fd)
	}
}

func closes(t *testing.T, x *fdtab.Table, fd, id int) {
	t.Helper()
	if had, e := x.Close(fd); had != id || e != api.OK {
		t.Errorf("Close(%d): %d, %d, not %d", fd, had, e, id)
	}
}

// isnt tells that a descriptor is free, or none of the table.
func isnt(t *testing.T, x *fdtab.Table, fd int) {
	t.Helper()
	if id, e := x.Get(fd); id != 0 || e != api.EBADF {
		t.Errorf("Get(%d): %d, %d", fd, id, e)
	}
	if id, e := x.Close(fd); id != 0 || e != api.EBADF {
		t.Errorf("Close(%d): %d, %d", fd, id, e)
	}
}

// looks tells by all calls that ask what the descriptors stand for: 0 is a free one.
func looks(t *testing.T, x *fdtab.Table, ids ...int) {
	t.Helper()
	used := []int{}
	for fd, id := range ids {
		if id == 0 {
			isnt(t, x, fd)
			continue
		}
		used = append(used, fd)
		if at, e := x.Get(fd); at != id || e != api.OK {
			t.Errorf("Get(%d): %d, %d, not %d", fd, at, e, id)
		}
	}
	if got := x.Used(); !slices.Equal(got, used) {
		t.Errorf("Used: %d, not %d", got, used)
	}
	if n := x.Free(); n != len(ids)-len(used) {
		t.Errorf("Free: %d, not %d", n, len(ids)-len(used))
	}
	isnt(t, x, -1)
	isnt(t, x, len(ids))
}

// P8.1: 1 to 16, and no other size.
func TestNew(t *testing.T) {
	for size := -2; size <= 20; size++ {
		x, e := fdtab.New(size)
		if in := size >= 1 && size <= 16; in && (x == nil || e != api.OK) || !in && (x != nil || e != api.EINVAL) {
			t.Errorf("New(%d): %v, %d", size, x, e)
		}
		if x != nil {
			looks(t, x, make([]int, size)...)
		}
	}
	for _, size := range []int{math.MinInt, math.MaxInt, 1 << 32, 1<<32 + 1, -1 << 32} {
		if x, e := fdtab.New(size); x != nil || e != api.EINVAL {
			t.Errorf("New(%d): %v, %d", size, x, e)
		}
	}
}

// P8.1: as many as the size says, and not one more.
func TestOpenToTheSize(t *testing.T) {
	for _, size := range []int{1, 2, 15, 16} {
		x := filled(t, size)
		ids := make([]int, size)
		for fd := range size {
			ids[fd] = 100 - fd
			opens(t, x, ids[fd], fd)
			looks(t, x, ids...)
		}
		for range 2 {
			if fd, e := x.Open(7); fd != 0 || e != api.EMFILE {
				t.Errorf("Open beyond %d: %d, %d", size, fd, e)
			}
		}
		looks(t, x, ids...)
		closes(t, x, size-1, ids[size-1])
		opens(t, x, 7, size-1)
		ids[size-1] = 7
		looks(t, x, ids...)
	}
}

// P8.1: the lowest free one, whichever was closed last.
func TestOpenTakesTheLowest(t *testing.T) {
	x := filled(t, 5, 5, 6, 7, 8)
	closes(t, x, 1, 6)
	closes(t, x, 3, 8)
	closes(t, x, 0, 5)
	looks(t, x, 0, 0, 7, 0, 0)
	opens(t, x, 9, 0)
	opens(t, x, 10, 1)
	opens(t, x, 11, 3)
	opens(t, x, 12, 4)
	looks(t, x, 9, 10, 7, 11, 12)
}

// P8.1: numbers below 1 are none; of a full table, too, that is told first.
func TestOpenOfNoObject(t *testing.T) {
	for _, x := range []*fdtab.Table{filled(t, 2, 3), filled(t, 2, 3, 4)} {
		free, used := x.Free(), x.Used()
		for _, id := range []int{0, -1, -2, -1 << 32, math.MinInt} {
			if fd, e := x.Open(id); fd != 0 || e != api.EINVAL {
				t.Errorf("Open(%d): %d, %d", id, fd, e)
			}
		}
		if x.Free() != free || !slices.Equal(x.Used(), used) {
			t.Errorf("Free and Used behind it: %d, %d", x.Free(), x.Used())
		}
	}
}

// P8.1: numbers from 1 on, and one of them by two descriptors.
func TestOpenOfEachObject(t *testing.T) {
	x := filled(t, 6, 1, 2, 65, 1<<32, math.MaxInt, 1)
	looks(t, x, 1, 2, 65, 1<<32, math.MaxInt, 1)
	closes(t, x, 0, 1)
	looks(t, x, 0, 2, 65, 1<<32, math.MaxInt, 1)
}

// P8.1
func TestCloseAndGetOfNoDescriptor(t *testing.T) {
	x := filled(t, 3, 5, 6)
	for _, fd := range []int{-1, -2, 2, 3, 4, 16, 17, 1 << 32, 1<<32 + 1, math.MaxInt, math.MinInt} {
		isnt(t, x, fd)
	}
	looks(t, x, 5, 6, 0)
	closes(t, x, 0, 5)
	isnt(t, x, 0)
	looks(t, x, 0, 6, 0)
	opens(t, x, 7, 0)
	looks(t, x, 7, 6, 0)
}

// P8.1: scripts of calls, held against a list of one's own.
func TestScripts(t *testing.T) {
	for seed := range uint64(40) {
		r := rand.New(rand.NewPCG(seed, 8))
		ids := make([]int, 1+r.IntN(16))
		x := filled(t, len(ids))
		for range 200 {
			if r.IntN(5) < 3 {
				id := r.IntN(6)
				want, err := slices.Index(ids, 0), api.OK
				if id == 0 {
					want, err = 0, api.EINVAL
				} else if want < 0 {
					want, err = 0, api.EMFILE
				}
				if fd, e := x.Open(id); fd != want || e != err {
					t.Fatalf("Open(%d) of %d: %d, %d", id, ids, fd, e)
				}
				if err == api.OK {
					ids[want] = id
				}
			} else if fd := r.IntN(len(ids)); ids[fd] > 0 {
				closes(t, x, fd, ids[fd])
				ids[fd] = 0
			}
			looks(t, x, ids...)
		}
	}
}

func TestTablesAreApart(t *testing.T) {
	x, y := filled(t, 2, 5), filled(t, 2, 6, 7)
	closes(t, y, 0, 6)
	looks(t, x, 5, 0)
	looks(t, y, 0, 7)
}

// P8.2
func TestUsedIsNewMemory(t *testing.T) {
	x := filled(t, 4, 5, 6, 7)
	one, other := x.Used(), x.Used()
	for i := range one {
		one[i] = 3
	}
	_ = append(one, 9, 9)
	if !slices.Equal(other, []int{0, 1, 2}) {
		t.Errorf("another answer: %d", other)
	}
	looks(t, x, 5, 6, 7, 0)
	closes(t, x, 0, 5)
	if !slices.Equal(other, []int{0, 1, 2}) {
		t.Errorf("an answer from ahead: %d", other)
	}
}

// P8.1, P1: a nil table answers, too.
func TestNilTable(t *testing.T) {
	var x *fdtab.Table
	for _, n := range []int{-1, 0, 1, 2, math.MaxInt} {
		if fd, e := x.Open(n); fd != 0 || e != api.EINVAL {
			t.Errorf("Open(%d): %d, %d", n, fd, e)
		}
		if id, e := x.Close(n); id != 0 || e != api.EINVAL {
			t.Errorf("Close(%d): %d, %d", n, id, e)
		}
		if id, e := x.Get(n); id != 0 || e != api.EINVAL {
			t.Errorf("Get(%d): %d, %d", n, id, e)
		}
	}
	if x.Free() != 0 || len(x.Used()) != 0 {
		t.Errorf("Free and Used: %d, %d", x.Free(), x.Used())
	}
}

// P1: a table that New hasn't made has no descriptors.
func TestTableWithoutNew(t *testing.T) {
	x := &fdtab.Table{}
	if fd, e := x.Open(1); fd != 0 || e != api.EMFILE {
		t.Errorf("Open: %d, %d", fd, e)
	}
	looks(t, x)
}

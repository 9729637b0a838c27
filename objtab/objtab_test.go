package objtab_test

import (
	"math"
	"math/rand/v2"
	"slices"
	"strconv"
	"testing"

	"tipstaff/api"
	"tipstaff/objtab"
)

func table[T any](t *testing.T, size int) *objtab.Table[T] {
	t.Helper()
	x, e := objtab.New[T](size)
	if x == nil || e != api.OK {
		t.Fatalf("New(%d): %v, %d", size, x, e)
	}
	return x
}

// filled is a table of that size whose objects 1 to n are the texts of their numbers.
func filled(t *testing.T, size, n int) *objtab.Table[string] {
	t.Helper()
	x := table[string](t, size)
	for id := 1; id <= n; id++ {
		if at, e := x.Make(strconv.Itoa(id)); at != id || e != api.OK {
			t.Fatalf("Make %d of %d: %d, %d", id, size, at, e)
		}
	}
	return x
}

// looks tells by all calls that ask that just these objects are there, each held so often.
func looks(t *testing.T, x *objtab.Table[string], held map[int]int) {
	t.Helper()
	ids := []int{}
	last := 0
	for id := range held {
		ids = append(ids, id)
		last = max(last, id)
	}
	slices.Sort(ids)
	if live := x.Live(); !slices.Equal(live, ids) {
		t.Errorf("Live: %d, not %d", live, ids)
	}
	for id := -2; id <= last+2; id++ {
		if n := x.Held(id); n != held[id] {
			t.Errorf("Held(%d): %d, not %d", id, n, held[id])
		}
		object, e := x.Get(id)
		if held[id] > 0 && (object != strconv.Itoa(id) || e != api.OK) || held[id] == 0 && (object != "" || e != api.ENOENT) {
			t.Errorf("Get(%d): %q, %d", id, object, e)
		}
	}
}

// isnt tells that an object isn't there, by all calls that name one.
func isnt(t *testing.T, x *objtab.Table[string], id int) {
	t.Helper()
	if e := x.Hold(id); e != api.ENOENT {
		t.Errorf("Hold(%d): %d", id, e)
	}
	if gone, e := x.Drop(id); gone || e != api.ENOENT {
		t.Errorf("Drop(%d): %v, %d", id, gone, e)
	}
	if object, e := x.Get(id); object != "" || e != api.ENOENT {
		t.Errorf("Get(%d): %q, %d", id, object, e)
	}
	if n := x.Held(id); n != 0 {
		t.Errorf("Held(%d): %d", id, n)
	}
}

func drop(t *testing.T, x *objtab.Table[string], id int, last bool) {
	t.Helper()
	if gone, e := x.Drop(id); gone != last || e != api.OK {
		t.Errorf("Drop(%d): %v, %d", id, gone, e)
	}
}

func hold(t *testing.T, x *objtab.Table[string], id int) {
	t.Helper()
	if e := x.Hold(id); e != api.OK {
		t.Errorf("Hold(%d): %d", id, e)
	}
}

// P7.1: 1 to 64, and no other size.
func TestNew(t *testing.T) {
	for size := -2; size <= 70; size++ {
		x, e := objtab.New[int](size)
		if in := size >= 1 && size <= 64; in && (x == nil || e != api.OK) || !in && (x != nil || e != api.EINVAL) {
			t.Errorf("New(%d): %v, %d", size, x, e)
		}
	}
	for _, size := range []int{math.MinInt, math.MaxInt, 1 << 32, 1<<32 + 1, -1 << 32} {
		if x, e := objtab.New[string](size); x != nil || e != api.EINVAL {
			t.Errorf("New(%d): %v, %d", size, x, e)
		}
	}
	x := filled(t, 3, 0)
	looks(t, x, nil)
	for _, id := range []int{0, 1, 3} {
		isnt(t, x, id)
	}
}

// P7.1: as many as the size says, and not one more; what is refused takes no number.
func TestMakeToTheSize(t *testing.T) {
	for _, size := range []int{1, 2, 63, 64} {
		x := filled(t, size, size)
		held := map[int]int{}
		for id := 1; id <= size; id++ {
			held[id] = 1
		}
		for range 3 {
			if id, e := x.Make("beyond"); id != 0 || e != api.ENOMEM {
				t.Errorf("Make beyond %d: %d, %d", size, id, e)
			}
		}
		looks(t, x, held)
		drop(t, x, size, true)
		delete(held, size)
		looks(t, x, held)
		if id, e := x.Make(strconv.Itoa(size + 1)); id != size+1 || e != api.OK {
			t.Errorf("Make behind Drop, of %d: %d, %d", size, id, e)
		}
		held[size+1] = 1
		looks(t, x, held)
	}
}

// P7.1: no number comes again, though all objects are gone; and the room of those comes again each time.
func TestNumbersDontComeAgain(t *testing.T) {
	x := table[string](t, 1)
	for id := 1; id <= 200; id++ {
		if at, e := x.Make(strconv.Itoa(id)); at != id || e != api.OK {
			t.Fatalf("Make %d: %d, %d", id, at, e)
		}
		isnt(t, x, id-1)
		looks(t, x, map[int]int{id: 1})
		drop(t, x, id, true)
	}
	looks(t, x, nil)
}

// P7.1: a table that is full still: it isn't room that a Drop makes while the object is held.
func TestDropThatLeavesAHold(t *testing.T) {
	x := filled(t, 2, 2)
	hold(t, x, 1)
	drop(t, x, 1, false)
	if id, e := x.Make("beyond"); id != 0 || e != api.ENOMEM {
		t.Errorf("Make: %d, %d", id, e)
	}
	looks(t, x, map[int]int{1: 1, 2: 1})
}

// P7.1: an object may be held 1000 times, and not once more; each hold is to be dropped.
func TestHoldToTheLimit(t *testing.T) {
	x := filled(t, 3, 2)
	for n := 2; n <= 1000; n++ {
		hold(t, x, 1)
		if x.Held(1) != n {
			t.Fatalf("Held: %d, not %d", x.Held(1), n)
		}
	}
	for range 3 {
		if e := x.Hold(1); e != api.ENOSPC {
			t.Errorf("Hold beyond the limit: %d", e)
		}
	}
	looks(t, x, map[int]int{1: 1000, 2: 1})
	hold(t, x, 2)
	drop(t, x, 1, false)
	hold(t, x, 1)
	if e := x.Hold(1); e != api.ENOSPC {
		t.Errorf("Hold beyond the limit again: %d", e)
	}
	for n := 999; n > 0; n-- {
		drop(t, x, 1, false)
		if x.Held(1) != n {
			t.Fatalf("Held: %d, not %d", x.Held(1), n)
		}
	}
	drop(t, x, 1, true)
	isnt(t, x, 1)
	looks(t, x, map[int]int{2: 2})
}

// P7.1: numbers that no object has, or none has any more.
func TestNoSuchObject(t *testing.T) {
	x := filled(t, 5, 4)
	drop(t, x, 2, true)
	drop(t, x, 4, true)
	for _, id := range []int{0, -1, -3, 2, 4, 5, 6, 64, 65, 1 << 32, 1<<32 + 1, math.MaxInt, math.MinInt} {
		isnt(t, x, id)
		looks(t, x, map[int]int{1: 1, 3: 1})
	}
	// A number that was refused comes to life when it is its turn.
	if id, e := x.Make("5"); id != 5 || e != api.OK {
		t.Errorf("Make: %d, %d", id, e)
	}
	looks(t, x, map[int]int{1: 1, 3: 1, 5: 1})
}

// P7.2: in whatever order objects go, the others stay what they were.
func TestObjectsGoInEachOrder(t *testing.T) {
	for _, order := range [][]int{{1, 2, 3, 4}, {4, 3, 2, 1}, {2, 4, 1, 3}, {3, 1, 4, 2}, {2, 3, 1, 4}} {
		x := filled(t, 4, 4)
		held := map[int]int{1: 1, 2: 1, 3: 1, 4: 1}
		for _, id := range order {
			drop(t, x, id, true)
			delete(held, id)
			looks(t, x, held)
			isnt(t, x, id)
		}
	}
}

// P7.1, P7.2: scripts of calls, held against a table of one's own.
func TestScripts(t *testing.T) {
	for seed := range uint64(40) {
		r := rand.New(rand.NewPCG(seed, 7))
		size := 1 + r.IntN(6)
		x := filled(t, size, 0)
		held, last := map[int]int{}, 0
		for range 300 {
			id := last - r.IntN(8) + 1
			switch r.IntN(4) {
			case 0:
				want, err := last+1, api.OK
				if len(held) == size {
					want, err = 0, api.ENOMEM
				}
				if at, e := x.Make(strconv.Itoa(last + 1)); at != want || e != err {
					t.Fatalf("Make: %d, %d, not %d, %d", at, e, want, err)
				}
				if err == api.OK {
					last++
					held[last] = 1
				}
			case 1:
				if held[id] == 0 {
					isnt(t, x, id)
					continue
				}
				hold(t, x, id)
				held[id]++
			default:
				if held[id] == 0 {
					isnt(t, x, id)
					continue
				}
				drop(t, x, id, held[id] == 1)
				if held[id]--; held[id] == 0 {
					delete(held, id)
				}
			}
			looks(t, x, held)
		}
	}
}

// P7.1: of numbers as of texts; zero values are objects like others.
func TestNumbers(t *testing.T) {
	x := table[int](t, 3)
	for i, object := range []int{0, -1, math.MaxInt} {
		if id, e := x.Make(object); id != i+1 || e != api.OK {
			t.Errorf("Make: %d, %d", id, e)
		}
		if back, e := x.Get(i + 1); back != object || e != api.OK {
			t.Errorf("Get: %d, %d", back, e)
		}
	}
	if id, e := x.Make(5); id != 0 || e != api.ENOMEM {
		t.Errorf("Make: %d, %d", id, e)
	}
	if back, e := x.Get(4); back != 0 || e != api.ENOENT {
		t.Errorf("Get: %d, %d", back, e)
	}
	if gone, e := x.Drop(3); !gone || e != api.OK {
		t.Errorf("Drop: %v, %d", gone, e)
	}
	if back, e := x.Get(3); back != 0 || e != api.ENOENT {
		t.Errorf("Get of what is gone: %d, %d", back, e)
	}
}

func TestTexts(t *testing.T) {
	x := table[string](t, 4)
	for i, object := range []string{"", "a", "a", "\x00\xff"} {
		if id, e := x.Make(object); id != i+1 || e != api.OK {
			t.Errorf("Make: %d, %d", id, e)
		}
		if back, e := x.Get(i + 1); back != object || e != api.OK {
			t.Errorf("Get: %q, %d", back, e)
		}
	}
	if !slices.Equal(x.Live(), []int{1, 2, 3, 4}) {
		t.Errorf("Live: %d", x.Live())
	}
}

// Objects of other kinds: a pointer is the same one, and of none there is nil.
func TestPointers(t *testing.T) {
	x := table[*api.Insn](t, 2)
	object := &api.Insn{Op: 1}
	if id, e := x.Make(object); id != 1 || e != api.OK {
		t.Errorf("Make: %d, %d", id, e)
	}
	if id, e := x.Make(nil); id != 2 || e != api.OK {
		t.Errorf("Make of nil: %d, %d", id, e)
	}
	if back, e := x.Get(1); back != object || e != api.OK {
		t.Errorf("Get: %v, %d", back, e)
	}
	if back, e := x.Get(2); back != nil || e != api.OK {
		t.Errorf("Get of nil: %v, %d", back, e)
	}
	if back, e := x.Get(3); back != nil || e != api.ENOENT {
		t.Errorf("Get of none: %v, %d", back, e)
	}
}

func TestTablesAreApart(t *testing.T) {
	x, y := filled(t, 2, 1), filled(t, 2, 0)
	looks(t, y, nil)
	if id, e := y.Make("1"); id != 1 || e != api.OK {
		t.Errorf("Make: %d, %d", id, e)
	}
	hold(t, y, 1)
	looks(t, x, map[int]int{1: 1})
	drop(t, x, 1, true)
	looks(t, y, map[int]int{1: 2})
}

// P7.3
func TestLiveIsNewMemory(t *testing.T) {
	x := filled(t, 4, 3)
	one, other := x.Live(), x.Live()
	for i := range one {
		one[i] = -1
	}
	_ = append(one, 9, 9, 9)
	if !slices.Equal(other, []int{1, 2, 3}) {
		t.Errorf("another answer: %d", other)
	}
	looks(t, x, map[int]int{1: 1, 2: 1, 3: 1})
	drop(t, x, 1, true)
	if id, e := x.Make("4"); id != 4 || e != api.OK {
		t.Errorf("Make: %d, %d", id, e)
	}
	if !slices.Equal(other, []int{1, 2, 3}) {
		t.Errorf("an answer from ahead: %d", other)
	}
}

// P7.1, P1: a nil table answers, too.
func TestNilTable(t *testing.T) {
	var x *objtab.Table[string]
	if id, e := x.Make("1"); id != 0 || e != api.EINVAL {
		t.Errorf("Make: %d, %d", id, e)
	}
	for _, id := range []int{-1, 0, 1, math.MaxInt} {
		if e := x.Hold(id); e != api.EINVAL {
			t.Errorf("Hold(%d): %d", id, e)
		}
		if gone, e := x.Drop(id); gone || e != api.EINVAL {
			t.Errorf("Drop(%d): %v, %d", id, gone, e)
		}
		if object, e := x.Get(id); object != "" || e != api.EINVAL {
			t.Errorf("Get(%d): %q, %d", id, object, e)
		}
		if n := x.Held(id); n != 0 {
			t.Errorf("Held(%d): %d", id, n)
		}
	}
	if live := x.Live(); len(live) != 0 {
		t.Errorf("Live: %d", live)
	}
}

// P1: a table that New hasn't made has room for nothing.
func TestTableWithoutNew(t *testing.T) {
	x := &objtab.Table[string]{}
	if id, e := x.Make("1"); id != 0 || e != api.ENOMEM {
		t.Errorf("Make: %d, %d", id, e)
	}
	isnt(t, x, 0)
	isnt(t, x, 1)
	looks(t, x, nil)
}

package space_test

import (
	"math"
	"slices"
	"testing"

	"tipstaff/api"
	"tipstaff/space"
)

// made is a tree with a namespace within each of these, in that order.
func made(t *testing.T, ups ...int) *space.Tree {
	t.Helper()
	x := space.New()
	for i, up := range ups {
		if n, e := x.Make(up); n != i+1 || e != api.OK {
			t.Fatalf("Make(%d) behind %d: %d, %d", up, ups[:i], n, e)
		}
	}
	return x
}

// pathOf is the way to a namespace of the tree that these make.
func pathOf(ups []int, n int) []int {
	if n == 0 {
		return []int{0}
	}
	return append(pathOf(ups, ups[n-1]), n)
}

// far are numbers of no namespace.
func far() []int {
	return []int{-1, -2, -8, 8, 9, 255, 256, 1 << 32, 1<<32 + 1, -1 << 32, math.MaxInt, math.MinInt}
}

// hasnt tells that there is no such namespace.
func hasnt(t *testing.T, x *space.Tree, n, there int) {
	t.Helper()
	if up, e := x.Up(n); up != 0 || e != api.ENOENT {
		t.Errorf("Up(%d): %d, %d", n, up, e)
	}
	if d, e := x.Depth(n); d != 0 || e != api.ENOENT {
		t.Errorf("Depth(%d): %d, %d", n, d, e)
	}
	if p := x.Path(n); len(p) != 0 {
		t.Errorf("Path(%d): %d", n, p)
	}
	if x.Inside(n, n) {
		t.Errorf("%d is inside itself", n)
	}
	for m := range there {
		if x.Inside(n, m) || x.Inside(m, n) {
			t.Errorf("Inside of %d, %d", n, m)
		}
	}
}

// looks tells by all calls that ask what is in the tree that these make.
func looks(t *testing.T, x *space.Tree, ups ...int) {
	t.Helper()
	count := len(ups) + 1
	if x.Len() != count {
		t.Errorf("Len: %d, not %d", x.Len(), count)
	}
	for n := range count {
		path := pathOf(ups, n)
		if got := x.Path(n); !slices.Equal(got, path) {
			t.Errorf("%d: Path(%d): %d, not %d", ups, n, got, path)
		}
		up := 0
		if n > 0 {
			up = ups[n-1]
		}
		if got, e := x.Up(n); got != up || e != api.OK {
			t.Errorf("%d: Up(%d): %d, %d, not %d", ups, n, got, e, up)
		}
		if got, e := x.Depth(n); got != len(path)-1 || e != api.OK {
			t.Errorf("%d: Depth(%d): %d, %d, not %d", ups, n, got, e, len(path)-1)
		}
		for outer := range count {
			if got := x.Inside(n, outer); got != slices.Contains(path, outer) {
				t.Errorf("%d: Inside(%d, %d): %v", ups, n, outer, got)
			}
		}
	}
	hasnt(t, x, -1, count)
	hasnt(t, x, count, count)
}

// refused tells that a Make answers that error, and changes nothing.
func refused(t *testing.T, ups []int, up int, err api.Errno) {
	t.Helper()
	x := made(t, ups...)
	for range 2 {
		if n, e := x.Make(up); n != 0 || e != err {
			t.Errorf("%d: Make(%d): %d, %d, not %d", ups, up, n, e, err)
		}
	}
	looks(t, x, ups...)
}

// P10.1
func TestNew(t *testing.T) {
	x := space.New()
	looks(t, x)
	other := space.New()
	if n, e := other.Make(0); n != 1 || e != api.OK {
		t.Errorf("Make(0): %d, %d", n, e)
	}
	looks(t, x)
	looks(t, other, 0)
}

// P10.1: the document's example.
func TestExample(t *testing.T) {
	x := made(t, 0, 1)
	if !x.Inside(2, 0) || x.Inside(0, 2) || !slices.Equal(x.Path(2), []int{0, 1, 2}) {
		t.Errorf("%v, %v, %d", x.Inside(2, 0), x.Inside(0, 2), x.Path(2))
	}
}

// P10.1: depths go to 4, and there are 8 at most.
func TestMakeToTheLimits(t *testing.T) {
	looks(t, made(t, 0, 1, 2, 3), 0, 1, 2, 3)
	looks(t, made(t, 0, 0, 0, 0, 0, 0, 0), 0, 0, 0, 0, 0, 0, 0)
	refused(t, []int{0, 1, 2, 3}, 4, api.E2BIG)
	refused(t, []int{0, 0, 2, 3, 4, 4}, 5, api.E2BIG)
	refused(t, []int{0, 0, 0, 0, 0, 0, 0}, 0, api.ENOSPC)
	refused(t, []int{0, 0, 0, 0, 0, 0, 0}, 7, api.ENOSPC)
	refused(t, []int{0, 1, 2, 0, 0, 0, 3}, 3, api.ENOSPC)
}

// P10.1: one that is refused takes no number.
func TestMakeBehindRefused(t *testing.T) {
	x := made(t, 0, 1, 2, 3)
	x.Make(4)
	x.Make(5)
	x.Make(-1)
	if n, e := x.Make(3); n != 5 || e != api.OK {
		t.Errorf("Make(3): %d, %d", n, e)
	}
	looks(t, x, 0, 1, 2, 3, 3)
}

// P10.1: what isn't there is told ahead of what is too deep, and that ahead of no room.
func TestMakeOrderOfErrors(t *testing.T) {
	full := []int{0, 1, 2, 3, 3, 0, 0}
	refused(t, full, 4, api.E2BIG)
	refused(t, full, 5, api.E2BIG)
	refused(t, full, 3, api.ENOSPC)
	for _, up := range far() {
		refused(t, nil, up, api.ENOENT)
		refused(t, []int{0, 1, 2, 3}, up, api.ENOENT)
		refused(t, full, up, api.ENOENT)
	}
	for up := 1; up < 8; up++ {
		refused(t, nil, up, api.ENOENT)
	}
}

// P10.1: numbers of no namespace.
func TestWrongNumbers(t *testing.T) {
	for _, ups := range [][]int{nil, {0}, {0, 1, 2, 3}, {0, 0, 0, 0, 0, 0, 0}} {
		x := made(t, ups...)
		for _, n := range far() {
			hasnt(t, x, n, len(ups)+1)
		}
		looks(t, x, ups...)
	}
}

// P10.1, P10.2: every tree that there may be.
func TestAllTrees(t *testing.T) {
	trees := 0
	var grow func(ups []int)
	grow = func(ups []int) {
		trees++
		x := made(t, ups...)
		looks(t, x, ups...)
		threes(t, x)
		for up := range len(ups) + 1 {
			if len(pathOf(ups, up)) == 5 {
				refused(t, ups, up, api.E2BIG)
			} else if len(ups) == 7 {
				refused(t, ups, up, api.ENOSPC)
			} else {
				grow(append(slices.Clone(ups), up))
			}
		}
	}
	grow(nil)
	if trees < 1000 {
		t.Errorf("%d trees", trees)
	}
}

// threes holds P10.2 against each three of a tree, and numbers about them.
func threes(t *testing.T, x *space.Tree) {
	t.Helper()
	for a := -1; a <= x.Len(); a++ {
		for b := -1; b <= x.Len(); b++ {
			for c := -1; c <= x.Len(); c++ {
				if x.Inside(a, b) && x.Inside(b, c) && !x.Inside(a, c) {
					t.Errorf("%d is inside %d, and that inside %d", a, b, c)
				}
			}
		}
	}
}

// P10.1: a nil tree, and one that New hasn't made.
func TestNoTree(t *testing.T) {
	for _, n := range append(far(), 0, 1, 7) {
		var none *space.Tree
		if m, e := none.Make(n); m != 0 || e != api.EINVAL {
			t.Errorf("Make(%d): %d, %d", n, m, e)
		}
		if m, e := none.Up(n); m != 0 || e != api.EINVAL {
			t.Errorf("Up(%d): %d, %d", n, m, e)
		}
		if m, e := none.Depth(n); m != 0 || e != api.EINVAL {
			t.Errorf("Depth(%d): %d, %d", n, m, e)
		}
		if none.Inside(n, n) || none.Inside(n, 0) || none.Inside(0, n) || len(none.Path(n)) != 0 || none.Len() != 0 {
			t.Errorf("a nil tree has %d", n)
		}
		empty := new(space.Tree)
		if m, e := empty.Make(n); m != 0 || e != api.ENOENT {
			t.Errorf("Make(%d) of an empty one: %d, %d", n, m, e)
		}
		hasnt(t, empty, n, empty.Len())
	}
}

// P10.3: what is written into an answer stands in nothing else.
func TestAnswersAreNew(t *testing.T) {
	x := made(t, 0, 1, 2, 3, 2)
	for n := range x.Len() {
		path := x.Path(n)
		whole := path[:cap(path)]
		for i := range whole {
			whole[i] = 5
		}
		looks(t, x, 0, 1, 2, 3, 2)
	}
	one, other := x.Path(4), x.Path(4)
	one[0] = 7
	if !slices.Equal(other, []int{0, 1, 2, 3, 4}) {
		t.Errorf("Path(4): %d", other)
	}
}

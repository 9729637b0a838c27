package verify

import (
	"tipstaff/absreg"
	"tipstaff/api"
	"tipstaff/scalar"
)

// loaded is what bytes behind a place may be; nothing, if perhaps they can't be loaded.
func (c *checker) loaded(s *absreg.State, place absreg.Reg, off int16, size int) absreg.Reg {
	place = behind(place, off)
	if place.Kind == absreg.Stack {
		r, _ := absreg.Load(*s, place.Low, size)
		return r
	}
	if !c.inside(place, size) {
		return absreg.Reg{}
	}
	return number(scalar.Low(scalar.Any(), size))
}

// save has r stand behind a place; false, if perhaps it can't.
func (c *checker) save(s *absreg.State, place absreg.Reg, off int16, size int, r absreg.Reg) bool {
	place = behind(place, off)
	if place.Kind == absreg.Stack {
		saved, ok := absreg.Save(*s, place.Low, size, r)
		*s = saved
		return ok
	}
	return c.writable(place) && c.inside(place, size) && isNumber(r)
}

// readable: can n bytes from a place on be read, wherever it is?
func (c *checker) readable(s *absreg.State, place absreg.Reg, n int) bool {
	if place.Kind == absreg.Stack {
		return absreg.Ready(*s, place.Low, n)
	}
	return c.inside(place, n)
}

// fill has n bytes of numbers stand from a place on; false, if perhaps they can't.
func (c *checker) fill(s *absreg.State, place absreg.Reg, n int) bool {
	if place.Kind != absreg.Stack {
		return c.writable(place) && c.inside(place, n)
	}
	one := number(scalar.Low(scalar.Any(), 1))
	for i := range n {
		if !c.save(s, place, int16(i), 1, one) {
			return false
		}
	}
	return true
}

// behind is a place so much further. Places of the stack are moved by numbers alone: so their Low is their High, too.
func behind(place absreg.Reg, off int16) absreg.Reg {
	place.Low += int64(off)
	place.High += int64(off)
	return place
}

// inside: are n bytes of the context, or of a cell, all there from each place that it may be?
func (c *checker) inside(place absreg.Reg, n int) bool {
	switch place.Kind {
	case absreg.Ctx:
		return within(place, n, api.CtxSize)
	case absreg.Cell:
		return within(place, n, c.e.Specs[place.Slot].Value)
	}
	return false
}

func within(place absreg.Reg, n, size int) bool {
	return place.Low >= 0 && place.High+int64(n) <= int64(size)
}

// writable: is it a cell's place, of a map that isn't frozen?
func (c *checker) writable(place absreg.Reg) bool {
	return place.Kind == absreg.Cell && !c.frozen(place.Slot)
}

func (c *checker) frozen(slot int) bool {
	return slot < len(c.e.Frozen) && c.e.Frozen[slot]
}

package verify

import (
	"tipstaff/absreg"
	"tipstaff/api"
	"tipstaff/bmap"
	"tipstaff/scalar"
)

// Numbers of helpers.
const (
	helperLookup = 1
	helperUpdate = 2
	helperDelete = 3
	helperClock  = 5
	helperRandom = 7
	helperPush   = 87
	helperPop    = 88
	helperPeek   = 89
)

// mostArgs is how many registers, from 1 on, a helper may use up.
const mostArgs = 5

// call is a helper's work; false, if perhaps it can't do it.
func (c *checker) call(s *absreg.State, helper int32) bool {
	if !c.helps(s, helper) {
		return false
	}
	s.R[0] = number(scalar.Any())
	if helper == helperLookup {
		c.ids++
		s.R[0] = absreg.Reg{Kind: absreg.Maybe, Slot: s.R[1].Slot, Id: c.ids}
	}
	for i := 1; i <= mostArgs; i++ {
		s.R[i] = absreg.Reg{}
	}
	return true
}

// helps: has a helper what it needs, whatever registers and the stack have?
func (c *checker) helps(s *absreg.State, helper int32) bool {
	if helper == helperClock || helper == helperRandom {
		return true
	}
	of := s.R[1]
	if of.Kind != absreg.Map || !c.suits(helper, of.Slot) {
		return false
	}
	spec := c.e.Specs[of.Slot]
	switch helper {
	case helperLookup, helperDelete:
		return c.readable(s, s.R[2], spec.Key)
	case helperUpdate:
		return c.readable(s, s.R[2], spec.Key) && c.readable(s, s.R[3], spec.Value) && isNumber(s.R[4])
	case helperPush:
		return c.readable(s, s.R[2], spec.Value) && isNumber(s.R[3])
	}
	return c.fill(s, s.R[2], spec.Value)
}

// suits: may a helper that needs a map be called with that one?
func (c *checker) suits(helper int32, slot int) bool {
	spec := c.e.Specs[slot]
	switch helper {
	case helperLookup:
		return !isLine(spec)
	case helperUpdate:
		return !isLine(spec) && !c.frozen(slot)
	case helperDelete:
		return !isLine(spec) && !c.frozen(slot) && spec.Type != api.Array
	case helperPush, helperPop:
		return isLine(spec) && !c.frozen(slot)
	case helperPeek:
		return isLine(spec)
	}
	return false
}

// isLine: do the values of such a map stand in a row?
func isLine(spec bmap.Spec) bool {
	return spec.Type == api.Queue || spec.Type == api.Stack
}

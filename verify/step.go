package verify

import (
	"tipstaff/absreg"
	"tipstaff/api"
	"tipstaff/branch"
	"tipstaff/insn"
	"tipstaff/scalar"
	"tipstaff/shape"
)

// mostMoved is how far a place may be moved at once, either way: so no count of steps brings one round.
const mostMoved = 64

// Operations of layer 4's ALU of which more is to be said.
const (
	opAdd = 0
	opSub = 1
	opMov = 11
)

// Comparisons of layer 4's Jump that places and maps have, too.
const (
	opEqual   = 1
	opUnequal = 5
)

// step is the ways on from a place; false, if what stands there perhaps can't be done, or mayn't be.
func (c *checker) step(at int, s absreg.State) ([]way, bool) {
	x := c.l[at]
	p := insn.Of(x.Op)
	next, ok := at+1, false
	switch p.Kind {
	case insn.ALU:
		ok = c.put(&s, x, c.reckoned(p, s.R[x.Dst], operand(&s, x, p)))
	case insn.Jump:
		return jump(at, s, x, p)
	case insn.Always:
		next, ok = shape.Target(at, x), true
	case insn.Call:
		ok = c.call(&s, x.Imm)
	case insn.Exit:
		return nil, s.R[0].Kind == absreg.Number
	case insn.Load:
		ok = c.put(&s, x, c.loaded(&s, s.R[x.Src], x.Off, p.Size))
	case insn.Store:
		ok = c.save(&s, s.R[x.Dst], x.Off, p.Size, operand(&s, x, p))
	case insn.Atomic:
		ok = c.atomic(&s, x, p)
	case insn.Wide:
		next, ok = at+2, c.put(&s, x, c.wide(at))
	}
	if !ok {
		return nil, false
	}
	return []way{{to: next, s: s}}, true
}

// put lets a register have what one may; false, if that is nothing: it comes of what perhaps can't be done.
func (c *checker) put(s *absreg.State, x api.Insn, r absreg.Reg) bool {
	s.R[x.Dst] = r
	return r.Kind != absreg.None
}

// operand is the second one of an instruction, or what a Store saves.
func operand(s *absreg.State, x api.Insn, p insn.Parts) absreg.Reg {
	if p.Reg {
		return s.R[x.Src]
	}
	return number(scalar.Const(uint64(int64(x.Imm))))
}

// reckoned is what may come of an operation; nothing, where it perhaps can't be done.
func (c *checker) reckoned(p insn.Parts, a, b absreg.Reg) absreg.Reg {
	if p.Op == opMov {
		if p.Long && !isNumber(b) {
			return b
		}
		// It asks nothing of what its Dst had.
		a = number(scalar.Const(0))
	}
	switch {
	case isNumber(a) && isNumber(b):
		return number(scalar.Do(p.Op, p.Long, a.R, b.R))
	case !p.Long:
		return absreg.Reg{}
	case p.Op == opAdd && isPlace(a) && isNumber(b):
		return c.moved(a, b.R, false)
	case p.Op == opAdd && isNumber(a) && isPlace(b):
		return c.moved(b, a.R, false)
	case p.Op == opSub && isPlace(a) && isNumber(b):
		return c.moved(a, b.R, true)
	}
	return absreg.Reg{}
}

// moved is a place that many further, or back; nothing, if it mayn't be moved so.
func (c *checker) moved(place absreg.Reg, by scalar.Range, back bool) absreg.Reg {
	if by.SMin < -mostMoved || by.SMax > mostMoved {
		return absreg.Reg{}
	}
	alone := by.SMin == by.SMax && by.UMin == by.UMax
	if !alone && !(c.e.Privileged && place.Kind == absreg.Cell) {
		return absreg.Reg{}
	}
	least, most := by.SMin, by.SMax
	if back {
		least, most = -most, -least
	}
	place.Low += least
	place.High += most
	return place
}

// jump is the ways on from a comparison.
func jump(at int, s absreg.State, x api.Insn, p insn.Parts) ([]way, bool) {
	a, b := s.R[x.Dst], operand(&s, x, p)
	to := shape.Target(at, x)
	switch {
	case isNumber(a) && isNumber(b):
		return append(compared(at+1, s, x, p, false), compared(to, s, x, p, true)...), true
	case !asksForNought(x, p) || a.Kind == absreg.None:
		return nil, false
	case p.Op == opEqual:
		return append(found(at+1, s, a, true), found(to, s, a, false)...), true
	default:
		return append(found(at+1, s, a, false), found(to, s, a, true)...), true
	}
}

// compared is the way on where a comparison of numbers holds, or where it doesn't; none, if that can't be.
func compared(to int, s absreg.State, x api.Insn, p insn.Parts, holds bool) []way {
	if p.Reg && x.Dst == x.Src {
		return []way{{to: to, s: s}}
	}
	a, b, some := branch.Refine(p.Op, p.Long, s.R[x.Dst].R, operand(&s, x, p).R, holds)
	if !some {
		return nil
	}
	s.R[x.Dst].R = a
	if p.Reg {
		s.R[x.Src].R = b
	}
	return []way{{to: to, s: s}}
}

// found is the way on where something that is no number, or Maybe one, was found to be there, or to be nought.
func found(to int, s absreg.State, r absreg.Reg, there bool) []way {
	if r.Kind == absreg.Maybe {
		return []way{{to: to, s: absreg.Settle(s, r.Id, there)}}
	}
	if !there {
		return nil
	}
	return []way{{to: to, s: s}}
}

// asksForNought: is it the comparison that places and maps have, too?
func asksForNought(x api.Insn, p insn.Parts) bool {
	return p.Long && !p.Reg && x.Imm == 0 && (p.Op == opEqual || p.Op == opUnequal)
}

func (c *checker) atomic(s *absreg.State, x api.Insn, p insn.Parts) bool {
	old := c.loaded(s, s.R[x.Dst], x.Off, p.Size)
	if !isNumber(old) || !isNumber(s.R[x.Src]) {
		return false
	}
	return c.save(s, s.R[x.Dst], x.Off, p.Size, number(scalar.Low(scalar.Any(), p.Size)))
}

// wide is what a Wide has, together with its Second; nothing, if it names a map that there isn't.
func (c *checker) wide(at int) absreg.Reg {
	x := c.l[at]
	if x.Src != namesMap {
		return number(scalar.Const(uint64(uint32(x.Imm)) | uint64(uint32(c.l[at+1].Imm))<<32))
	}
	if int(x.Imm) >= len(c.e.Specs) {
		return absreg.Reg{}
	}
	return absreg.Reg{Kind: absreg.Map, Slot: int(x.Imm)}
}

func number(r scalar.Range) absreg.Reg {
	return absreg.Reg{Kind: absreg.Number, R: r}
}

func isNumber(r absreg.Reg) bool {
	return r.Kind == absreg.Number
}

func isPlace(r absreg.Reg) bool {
	return r.Kind == absreg.Ctx || r.Kind == absreg.Stack || r.Kind == absreg.Cell
}

package rights_test

import (
	"fmt"
	"math"
	"math/rand/v2"
	"regexp"
	"strings"
	"testing"

	"tipstaff/api"
	"tipstaff/rights"
)

// form is what the document says of a text.
var form = regexp.MustCompile(`\Ac(0|[1-9a-f][0-9a-f]{0,3}) p(0|[1-9a-f][0-9a-f]{0,3}) m(0|[1-9a-f][0-9a-f]{0,3}) h(0|[1-9a-f][0-9a-f]{0,3})( privileged)?( signed)?\z`)

// words is the text, written otherwise.
func words(r rights.Rights) string {
	text := fmt.Sprintf("c%x p%x m%x h%x", r.Commands, r.Programs, r.Maps, r.Helpers)
	if r.Privileged {
		text = fmt.Sprint(text, " privileged")
	}
	if r.Signed {
		text = fmt.Sprint(text, " signed")
	}
	return text
}

// some are rights of all kinds: at the ends, of one bit, and by chance.
func some() []rights.Rights {
	var all []rights.Rights
	for _, b := range []uint16{0, 1, 0xff, 0xfff, 0xffff, 0x8000} {
		all = append(all, rights.Rights{Commands: b, Programs: b, Maps: b, Helpers: b})
	}
	for bit := range 16 {
		b := uint16(1) << bit
		all = append(all, rights.Rights{Commands: b}, rights.Rights{Programs: b}, rights.Rights{Maps: b}, rights.Rights{Helpers: b})
	}
	chance := rand.New(rand.NewPCG(11, 1))
	for range 60 {
		all = append(all, rights.Rights{
			Commands: uint16(chance.Uint32()), Programs: uint16(chance.Uint32()), Maps: uint16(chance.Uint32()), Helpers: uint16(chance.Uint32()),
		})
	}
	all = append(all, rights.All())
	plain := all
	for _, r := range plain {
		r.Privileged, r.Signed = true, false
		all = append(all, r)
		r.Signed = true
		all = append(all, r)
		r.Privileged = false
		all = append(all, r)
	}
	return all
}

// P11.1
func TestAll(t *testing.T) {
	want := rights.Rights{Commands: 0b11111111, Programs: 0b1111, Maps: 0b111111, Helpers: 0b11111111, Privileged: true}
	if got := rights.All(); got != want {
		t.Errorf("All: %+v", got)
	}
}

// P11.1: these eight, and no other one.
func TestBit(t *testing.T) {
	bits := map[int32]int{1: 0, 2: 1, 3: 2, 5: 3, 7: 4, 87: 5, 88: 6, 89: 7}
	numbers := []int32{math.MinInt32, math.MaxInt32, 1 << 16, 1<<16 + 1, 1<<24 + 5, -1 << 16, 1<<31 - 89}
	for n := int32(-300); n <= 300; n++ {
		numbers = append(numbers, n)
	}
	for _, n := range numbers {
		bit, there := rights.Bit(n)
		if want, in := bits[n]; bit != want || there != in {
			t.Errorf("Bit(%d): %d, %v", n, bit, there)
		}
	}
}

// P11.1: one bit that is missing is enough, in each of the four, at each of 16 places.
func TestWithinOfEachBit(t *testing.T) {
	full := rights.Rights{Commands: 0xffff, Programs: 0xffff, Maps: 0xffff, Helpers: 0xffff}
	for bit := range 16 {
		b := uint16(1) << bit
		for i, less := range []rights.Rights{full, full, full, full} {
			switch i {
			case 0:
				less.Commands ^= b
			case 1:
				less.Programs ^= b
			case 2:
				less.Maps ^= b
			case 3:
				less.Helpers ^= b
			}
			if !rights.Within(less, full) || rights.Within(full, less) {
				t.Errorf("Within of all bits and %+v", less)
			}
			if got := rights.Common(less, full); got != less {
				t.Errorf("Common of all bits and %+v: %+v", less, got)
			}
			if got := rights.Common(full, less); got != less {
				t.Errorf("Common of %+v and all bits: %+v", less, got)
			}
		}
	}
}

// P11.1: Privileged may be left out, and Signed come in; not the other way round.
func TestWithinOfWords(t *testing.T) {
	for i := range 16 {
		a := rights.Rights{Commands: 1, Privileged: i&1 != 0, Signed: i&2 != 0}
		b := rights.Rights{Commands: 3, Privileged: i&4 != 0, Signed: i&8 != 0}
		want := !(a.Privileged && !b.Privileged) && !(b.Signed && !a.Signed)
		if got := rights.Within(a, b); got != want {
			t.Errorf("Within(%+v, %+v): %v", a, b, got)
		}
		if rights.Within(b, a) {
			t.Errorf("Within(%+v, %+v), without a bit", b, a)
		}
		both := rights.Rights{Commands: 1, Privileged: a.Privileged && b.Privileged, Signed: a.Signed || b.Signed}
		if got := rights.Common(a, b); got != both {
			t.Errorf("Common(%+v, %+v): %+v", a, b, got)
		}
	}
}

// P11.3
func TestWithinOfThree(t *testing.T) {
	all := some()
	for _, a := range all {
		if !rights.Within(a, a) || rights.Common(a, a) != a {
			t.Errorf("%+v isn't within itself", a)
		}
		for _, b := range all {
			both := rights.Common(a, b)
			if !rights.Within(both, a) || !rights.Within(both, b) {
				t.Errorf("Common(%+v, %+v) isn't within both: %+v", a, b, both)
			}
			for _, c := range all[:120] {
				if rights.Within(c, a) && rights.Within(c, b) != rights.Within(c, both) {
					t.Errorf("%+v, and what %+v and %+v have in common", c, a, b)
				}
				if rights.Within(c, a) && rights.Within(a, b) && !rights.Within(c, b) {
					t.Errorf("%+v within %+v within %+v", c, a, b)
				}
			}
		}
	}
}

// P11.3: by chance, near one another.
func TestWithinByChance(t *testing.T) {
	chance := rand.New(rand.NewPCG(11, 3))
	near := func(r rights.Rights) rights.Rights {
		r.Commands &= uint16(chance.Uint32() | chance.Uint32())
		r.Programs &= uint16(chance.Uint32() | chance.Uint32())
		r.Maps &= uint16(chance.Uint32() | chance.Uint32())
		r.Helpers &= uint16(chance.Uint32() | chance.Uint32())
		r.Privileged = r.Privileged && chance.IntN(2) == 0
		r.Signed = r.Signed || chance.IntN(2) == 0
		return r
	}
	for range 2000 {
		a := near(rights.Rights{Commands: 0xffff, Programs: 0xffff, Maps: 0xffff, Helpers: 0xffff, Privileged: true})
		b := near(a)
		c := near(b)
		if !rights.Within(b, a) || !rights.Within(c, b) || !rights.Within(c, a) {
			t.Errorf("%+v, %+v, %+v", a, b, c)
		}
		if rights.Common(a, c) != c || rights.Common(c, a) != c {
			t.Errorf("Common of %+v and %+v", a, c)
		}
	}
}

// P11.1: the document's example.
func TestExample(t *testing.T) {
	if s := rights.Text(rights.All()); s != "cff pf m3f hff privileged" {
		t.Error(s)
	}
}

// P11.2: each number of each of the four.
func TestTextOfEachNumber(t *testing.T) {
	for n := range 1 << 16 {
		b := uint16(n)
		for _, r := range []rights.Rights{{Commands: b}, {Programs: b, Signed: true}, {Maps: b, Privileged: true}, {Helpers: b, Privileged: true, Signed: true}} {
			s := rights.Text(r)
			if s != words(r) {
				t.Fatalf("Text(%+v): %q", r, s)
			}
			if got, e := rights.Parse(s); got != r || e != api.OK {
				t.Fatalf("Parse(%q): %+v, %d", s, got, e)
			}
		}
	}
}

// P11.2: the whole of it.
func TestTextAndBack(t *testing.T) {
	for _, r := range some() {
		s := rights.Text(r)
		if s != words(r) {
			t.Errorf("Text(%+v): %q", r, s)
		}
		if got, e := rights.Parse(s); got != r || e != api.OK {
			t.Errorf("Parse(%q): %+v, %d", s, got, e)
		}
	}
}

// parsed tells that a text is read as the form says: back to its rights, or refused.
func parsed(t *testing.T, s string) {
	t.Helper()
	r, e := rights.Parse(s)
	if form.MatchString(s) {
		if e != api.OK || words(r) != s {
			t.Errorf("Parse(%q): %+v, %d", s, r, e)
		}
	} else if e != api.EINVAL || r != (rights.Rights{}) {
		t.Errorf("Parse(%q): %+v, %d", s, r, e)
	}
}

// P11.1, P11.2: no other text is theirs.
func TestParseRefuses(t *testing.T) {
	for _, s := range []string{
		"", " ", "c", "c0", "c0 p0 m0", "c0 p0 m0 ", "c0 p0 m0 h", "c p m h", "c p0 m0 h0", "0 0 0 0", "c0p0m0h0",
		"c10000 p0 m0 h0", "c0 p10000 m0 h0", "c0 p0 m10000 h0", "c0 p0 m0 h10000", "c0 p0 m0 h1ffff", "cffffffffffffffffffff p0 m0 h0",
		"c00 p0 m0 h0", "c0 p00 m0 h0", "c0 p0 m00 h0", "c0 p0 m0 h00", "c0ff p0 m0 h0", "c0000 p0 m0 h0", "c0ffff p0 m0 h0",
		"cFF p0 m0 h0", "c0 pA m0 h0", "C0 p0 m0 h0", "c0 P0 m0 h0", "c0 p0 M0 h0", "c0 p0 m0 H0",
		"p0 c0 m0 h0", "c0 m0 p0 h0", "c0 p0 h0 m0", "c c0 p0 m0 h0", "c0 pp0 m0 h0", "c-1 p0 m0 h0", "c+1 p0 m0 h0", "c0x1 p0 m0 h0", "c1_0 p0 m0 h0",
		" c0 p0 m0 h0", "c0 p0 m0 h0 ", "c0  p0 m0 h0", "c0 p0 m0  h0", "c0\tp0 m0 h0", "c0 p0 m0 h0\n", "c0 p0 m0 h0\x00", "\ufeffc0 p0 m0 h0",
		"c0 p0 m0 h0 Privileged", "c0 p0 m0 h0 privilege", "c0 p0 m0 h0 privilegedd", "c0 p0 m0 h0  privileged", "c0 p0 m0 h0 privileged ",
		"c0 p0 m0 h0 sign", "c0 p0 m0 h0 Signed", "c0 p0 m0 h0 unsigned", "c0 p0 m0 h0 signed ", "c0 p0 m0 h0  signed", "c0 p0 m0 h0signed", "c0 p0 m0 h0privileged",
		"c0 p0 m0 h0 signed privileged", "c0 p0 m0 h0 privilegedsigned", "c0 p0 m0 h0 privileged  signed", "c0 p0 m0 h0 privileged privileged",
		"c0 p0 m0 h0 signed signed", "c0 p0 m0 h0 privileged signed signed", "c0 p0 m0 h0 privileged x signed", "c0 p0 m0 h0 x", "c0 p0 m0 h0 privileged\tsigned",
		"privileged", "signed", "privileged signed", "privileged signed c0 p0 m0 h0", "c0 privileged p0 m0 h0",
		"c٣ p0 m0 h0", "cé p0 m0 h0", "c\xff p0 m0 h0", "c0,p0,m0,h0", "c0 p0 m0 hg", "c0 p0 m0 h0 h0",
	} {
		if r, e := rights.Parse(s); e != api.EINVAL || r != (rights.Rights{}) {
			t.Errorf("Parse(%q): %+v, %d", s, r, e)
		}
		parsed(t, s)
	}
}

// P11.2: texts that are one change away from a right one.
func TestParseNearby(t *testing.T) {
	signs := strings.Split("0 1 9 a f g A F c p m h   + - _ x . / : ` \n \x00 \xff é", " ")
	signs = append(signs, " ", "  ", " privileged", " signed", "00")
	for _, s := range []string{
		"c0 p0 m0 h0", "c1 p2 m3 h4", "cff pf m3f hff privileged", "c7 p1 m3 hff signed", "cffff pffff mffff hffff privileged signed", "ca0 pb00 mc000 hd privileged signed",
	} {
		parsed(t, s)
		for i := range len(s) {
			parsed(t, s[:i])
			parsed(t, s[i:])
			parsed(t, s[:i]+s[i+1:])
			parsed(t, s[:i]+strings.ToUpper(s[i:i+1])+s[i+1:])
			for _, sign := range signs {
				parsed(t, s[:i]+sign+s[i:])
				parsed(t, s[:i]+sign+s[i+1:])
			}
			for j := i; j < len(s); j++ {
				parsed(t, s[:i]+s[j:])
				parsed(t, s[:i]+s[j:j+1]+s[i:j]+s[j+1:])
			}
		}
		for _, sign := range signs {
			parsed(t, s+sign)
		}
		parsed(t, s+s)
		parsed(t, s+" "+s)
	}
}

// P11.1: long texts.
func TestParseLong(t *testing.T) {
	for _, s := range []string{"c", "0", " ", "c0 p0 m0 h0", " privileged", "f"} {
		long := strings.Repeat(s, 1<<20)
		parsed(t, long)
		parsed(t, "c"+long+" p0 m0 h0")
		parsed(t, "c0 p0 m0 h"+long)
		parsed(t, "c0 p0 m0 h0 privileged"+long+" signed")
	}
}

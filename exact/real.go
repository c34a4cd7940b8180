// Package exact works out single operations on finite numbers in whole numbers, so that nothing is lost before the one rounding at the end.
package exact

import (
	"math"
	"math/bits"
)

const (
	fractionBits     = 52
	wholeBits        = fractionBits + 1
	fractionMask     = 1<<fractionBits - 1
	fieldMask        = 1<<11 - 1
	leastExponent    = -1074
	greatestExponent = 971
)

// Real is a real number: whole times 2 to the exponent, negated if negative.
// Where more is set, it lies further from 0 than that, but nearer than whole+1
// would; whole then has at least wholeBits bits, so that this is all that a
// rounding has to know.
type Real struct {
	negative bool
	whole    uint64
	exponent int
	more     bool
}

// split is a finite number, exactly. Its whole has at most wholeBits bits, and
// just as many if its exponent is not the least one.
func split(x float64) Real {
	b := math.Float64bits(x)
	r := Real{negative: math.Signbit(x), whole: b & fractionMask, exponent: leastExponent}
	if field := int(b>>fractionBits) & fieldMask; field != 0 {
		r.whole += 1 << fractionBits
		r.exponent += field - 1
	}
	return r
}

// finer is the same real, told in units that are smaller by n bits.
func (r Real) finer(n int) Real {
	r.whole <<= n
	r.exponent -= n
	return r
}

// coarser is the same real, told in units that are greater by n bits.
func (r Real) coarser(n int) Real {
	kept := r.whole >> n
	r.more = r.more || kept<<n != r.whole
	r.whole = kept
	r.exponent += n
	return r
}

// fitted is the same real in the units in which the numbers about it lie.
func (r Real) fitted() Real {
	n := max(bits.Len64(r.whole)-wholeBits, leastExponent-r.exponent)
	if n < 0 {
		return r.finer(-n)
	}
	return r.coarser(n)
}

// Rounded is the real, rounded up or down.
func (r Real) Rounded(up bool) float64 {
	size := r.size(up != r.negative)
	// A negative real that becomes 0 must not become -0.
	if r.negative && size != 0 {
		return -size
	}
	return size
}

// size is the real without its sign, rounded away from 0 or towards it.
func (r Real) size(away bool) float64 {
	if r.whole == 0 {
		return 0
	}
	r = r.fitted()
	if r.exponent > greatestExponent {
		return beyond(away)
	}
	if r.more && away {
		r.whole++
	}
	// Added, not put together: the leading bit of whole makes the exponent's
	// field one greater, as it is for all but the least numbers, and so does a
	// whole that has just grown by a bit; from the greatest one on to infinity.
	return math.Float64frombits(uint64(r.exponent-leastExponent)<<fractionBits + r.whole)
}

// beyond is a real above the greatest finite number, rounded.
func beyond(away bool) float64 {
	if away {
		return math.Inf(1)
	}
	return math.MaxFloat64
}

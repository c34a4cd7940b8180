package exact

import "math/bits"

const (
	// sumRoom is how far a whole can be moved up so that a sum of two still fits.
	sumRoom = 64 - 1 - wholeBits
	// rootSteps is how many bits of a root are worked out: more than a number
	// has, and so few that what remains fits.
	rootSteps = 60
)

// Sum is x and y together. Both must be finite.
func Sum(x float64, y float64) Real {
	a, b := split(x), split(y)
	if a.exponent < b.exponent {
		a, b = b, a
	}
	gap := a.exponent - b.exponent
	rise := min(gap, sumRoom)
	a, b = a.finer(rise), b.coarser(gap-rise)
	if a.negative == b.negative {
		a.whole += b.whole
		a.more = b.more
		return a
	}
	return difference(a, b)
}

// difference is what is left of two reals in the same units that lie on both
// sides of 0. Only b may have more, and only if a is far greater.
func difference(a Real, b Real) Real {
	if a.whole < b.whole {
		a, b = b, a
	}
	a.whole -= b.whole
	if b.more {
		a.whole--
		a.more = true
	}
	return a
}

// Product is x times y. Both must be finite.
func Product(x float64, y float64) Real {
	a, b := split(x), split(y)
	high, low := bits.Mul64(a.whole, b.whole)
	n := bits.Len64(high)
	return Real{
		negative: a.negative != b.negative,
		whole:    high<<(64-n) | low>>n,
		exponent: a.exponent + b.exponent + n,
		more:     low>>n<<n != low,
	}
}

// Quotient is x divided by y. Both must be finite, and y not 0.
func Quotient(x float64, y float64) Real {
	a, b := split(x), split(y)
	a = a.finer(bits.LeadingZeros64(a.whole))
	b = b.finer(bits.LeadingZeros64(b.whole))
	// Moved down by a bit, a is less than b, so the quotient fits; and it has
	// 63 bits or 64, since neither is twice the other.
	quotient, rest := bits.Div64(a.whole>>1, a.whole<<63, b.whole)
	return Real{
		negative: a.negative != b.negative,
		whole:    quotient,
		exponent: a.exponent - b.exponent - 63,
		more:     rest != 0,
	}
}

// Root is the square root of x, which must be finite and not below 0.
func Root(x float64) Real {
	a := split(x)
	n := bits.LeadingZeros64(a.whole)
	// Only an even exponent can be halved.
	if (a.exponent-n)%2 != 0 {
		n--
	}
	a = a.finer(n)
	root, rest := rootBits(a.whole)
	return Real{
		whole:    root,
		exponent: (a.exponent + 64 - 2*rootSteps) / 2,
		more:     rest != 0,
	}
}

// rootBits is the first rootSteps bits of the root of whole, as by hand: a bit
// of the root for two bits of whole, and for two noughts when those are used
// up. The rest is 0 if that is all of the root.
func rootBits(whole uint64) (root uint64, rest uint64) {
	for range rootSteps {
		rest = rest<<2 | whole>>62
		whole <<= 2
		trial := root<<2 | 1
		root <<= 1
		if rest >= trial {
			rest -= trial
			root |= 1
		}
	}
	return root, rest
}

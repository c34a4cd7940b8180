package spans_test

import (
	"math"
	"math/big"
	"math/rand"
	"testing"

	"spans/api"
	"spans/spans"
)

var (
	none  = iv(inf, -inf)
	whole = iv(-inf, inf)
)

func iv(lo float64, hi float64) api.Interval { return api.Interval{Lo: lo, Hi: hi} }

// sameEnds: to the bit.
func sameEnds(a api.Interval, b api.Interval) bool { return same(a.Lo, b.Lo) && same(a.Hi, b.Hi) }

// notIntervals are what the document says is no interval.
func notIntervals() []api.Interval {
	return []api.Interval{iv(nan, nan), iv(nan, 1), iv(1, nan), iv(nan, inf), iv(-inf, nan), iv(2, 1), iv(least, 0), iv(most, -most), iv(inf, inf), iv(-inf, -inf), iv(inf, 1), iv(1, -inf), iv(inf, nan)}
}

func TestP5New(t *testing.T) {
	for _, c := range []struct{ lo, hi, wantLo, wantHi float64 }{
		{1, 2, 1, 2},
		{-3, -3, -3, -3},
		{0, 0, 0, 0},
		{minusZero, minusZero, 0, 0},
		{0, minusZero, 0, 0},
		{minusZero, 1, 0, 1},
		{-1, minusZero, -1, 0},
		{least, least, least, least},
		{-least, least, -least, least},
		{-most, most, -most, most},
		{most, inf, most, inf},
		{-inf, -most, -inf, -most},
		{-inf, 3, -inf, 3},
		{-3, inf, -3, inf},
		{-inf, inf, -inf, inf},
	} {
		if a, ok := spans.New(c.lo, c.hi); !ok || !sameEnds(a, iv(c.wantLo, c.wantHi)) {
			t.Errorf("P5: New(%x, %x) = %x, %t, want %x, %x and true", c.lo, c.hi, a, ok, c.wantLo, c.wantHi)
		}
	}
	for _, b := range append(notIntervals(), none) {
		if a, ok := spans.New(b.Lo, b.Hi); ok || !sameEnds(a, none) {
			t.Errorf("P5: New(%x, %x) = %x, %t, want the empty one and false", b.Lo, b.Hi, a, ok)
		}
	}
}

// TestP5AnyBits: an interval has a number if, and only if, a finite number lies
// from its one end to the other.
func TestP5AnyBits(t *testing.T) {
	for _, lo := range anyBits() {
		for _, hi := range anyBits() {
			number := math.Max(lo, -most)
			want := finite(number) && number <= hi
			a, ok := spans.New(lo, hi)
			if ok != want || ok && !sameEnds(a, iv(plain(lo), plain(hi))) || !ok && !sameEnds(a, none) {
				t.Errorf("P5: New(%x, %x) = %x, %t", lo, hi, a, ok)
			}
		}
	}
}

type ofOne struct {
	op      api.Op
	a, want api.Interval
}

type ofTwo struct {
	op         api.Op
	a, b, want api.Interval
}

// wantOfOne also holds that the second interval does not matter, whatever it is.
func wantOfOne(t *testing.T, promise string, cases []ofOne) {
	t.Helper()
	for _, c := range cases {
		for _, b := range append(notIntervals(), none, whole, iv(0, 0), iv(1, 2), c.a) {
			if got := spans.Apply(c.op, c.a, b); !sameEnds(got, c.want) {
				t.Errorf("%s: Apply(%d, %x, %x) = %x, want %x", promise, c.op, c.a, b, got, c.want)
			}
		}
	}
}

func wantOfTwo(t *testing.T, promise string, cases []ofTwo) {
	t.Helper()
	for _, c := range cases {
		if got := spans.Apply(c.op, c.a, c.b); !sameEnds(got, c.want) {
			t.Errorf("%s: Apply(%d, %x, %x) = %x, want %x", promise, c.op, c.a, c.b, got, c.want)
		}
	}
}

func TestP6NegAndAbs(t *testing.T) {
	wantOfOne(t, "P6", []ofOne{
		{api.Neg, iv(-1, 2), iv(-2, 1)},
		{api.Neg, iv(3, 3), iv(-3, -3)},
		{api.Neg, iv(0, 0), iv(0, 0)},
		{api.Neg, iv(minusZero, 0), iv(0, 0)},
		{api.Neg, iv(0, least), iv(-least, 0)},
		{api.Neg, iv(-most, 0), iv(0, most)},
		{api.Neg, iv(-inf, 3), iv(-3, inf)},
		{api.Neg, whole, whole},
		{api.Abs, iv(-3, 2), iv(0, 3)},
		{api.Abs, iv(-2, 3), iv(0, 3)},
		{api.Abs, iv(-3, -2), iv(2, 3)},
		{api.Abs, iv(2, 3), iv(2, 3)},
		{api.Abs, iv(-3, 0), iv(0, 3)},
		{api.Abs, iv(-3, minusZero), iv(0, 3)},
		{api.Abs, iv(0, 3), iv(0, 3)},
		{api.Abs, iv(0, 0), iv(0, 0)},
		{api.Abs, iv(minusZero, minusZero), iv(0, 0)},
		{api.Abs, iv(-least, -least), iv(least, least)},
		{api.Abs, iv(-inf, -most), iv(most, inf)},
		{api.Abs, iv(-inf, 3), iv(0, inf)},
		{api.Abs, iv(3, inf), iv(3, inf)},
		{api.Abs, whole, iv(0, inf)},
	})
}

func TestP6SquareAndRoot(t *testing.T) {
	wantOfOne(t, "P6", []ofOne{
		{api.Sqr, iv(-3, 2), iv(0, 9)},
		{api.Sqr, iv(-3, -2), iv(4, 9)},
		{api.Sqr, iv(2, 3), iv(4, 9)},
		{api.Sqr, iv(-3, 0), iv(0, 9)},
		{api.Sqr, iv(minusZero, minusZero), iv(0, 0)},
		{api.Sqr, iv(-inf, -2), iv(4, inf)},
		{api.Sqr, whole, iv(0, inf)},
		{api.Sqr, iv(least, least), iv(0, least)},
		{api.Sqr, iv(-least, least), iv(0, least)},
		{api.Sqr, iv(0x1p600, 0x1p600), iv(most, inf)},
		{api.Sqr, iv(-inf, -0x1p600), iv(most, inf)},
		{api.Sqr, iv(-1-0x1p-52, 1), iv(0, 1+0x1.8p-51)},
		{api.Sqr, iv(1+0x1p-52, 1+0x1p-52), iv(1+0x1p-51, 1+0x1.8p-51)},
		{api.Sqrt, iv(-4, 4), iv(0, 2)},
		{api.Sqrt, iv(4, 9), iv(2, 3)},
		{api.Sqrt, iv(-4, -1), none},
		{api.Sqrt, iv(-4, -least), none},
		{api.Sqrt, iv(-inf, -4), none},
		{api.Sqrt, iv(-1, 0), iv(0, 0)},
		{api.Sqrt, iv(-1, minusZero), iv(0, 0)},
		{api.Sqrt, iv(0, 0), iv(0, 0)},
		{api.Sqrt, iv(4, inf), iv(2, inf)},
		{api.Sqrt, iv(-inf, 4), iv(0, 2)},
		{api.Sqrt, whole, iv(0, inf)},
		{api.Sqrt, iv(2, 2), iv(math.Sqrt2-0x1p-52, math.Sqrt2)},
		{api.Sqrt, iv(least, most), iv(0x1p-537, 0x1p512)},
	})
}

func TestP6Floor(t *testing.T) {
	wantOfOne(t, "P6", []ofOne{
		{api.Floor, iv(1.25, 1.5), iv(1, 1)},
		{api.Floor, iv(1.5, 2.5), iv(1, 2)},
		{api.Floor, iv(1, 2), iv(1, 2)},
		{api.Floor, iv(1, 2-0x1p-52), iv(1, 1)},
		{api.Floor, iv(-0.5, 1.5), iv(-1, 1)},
		{api.Floor, iv(-least, -least), iv(-1, -1)},
		{api.Floor, iv(-2, -1.5), iv(-2, -2)},
		{api.Floor, iv(0.25, 0.5), iv(0, 0)},
		{api.Floor, iv(minusZero, minusZero), iv(0, 0)},
		{api.Floor, iv(minusZero, least), iv(0, 0)},
		{api.Floor, iv(-inf, 2.5), iv(-inf, 2)},
		{api.Floor, iv(-2.5, inf), iv(-3, inf)},
		{api.Floor, iv(-most, most), iv(-most, most)},
		{api.Floor, iv(0x1p52-0.5, 0x1p52+1), iv(0x1p52-1, 0x1p52+1)},
		{api.Floor, whole, whole},
	})
}

func TestP6Recip(t *testing.T) {
	wantOfOne(t, "P6", []ofOne{
		{api.Recip, iv(1, 2), iv(0.5, 1)},
		{api.Recip, iv(-4, -2), iv(-0.5, -0.25)},
		{api.Recip, iv(3, 3), iv(1.0/3, 1.0/3+0x1p-54)},
		{api.Recip, iv(0, 2), iv(0.5, inf)},
		{api.Recip, iv(minusZero, 2), iv(0.5, inf)},
		{api.Recip, iv(-2, 0), iv(-inf, -0.5)},
		{api.Recip, iv(-2, minusZero), iv(-inf, -0.5)},
		{api.Recip, iv(-1, 1), whole},
		{api.Recip, iv(-least, least), whole},
		{api.Recip, iv(0, 0), none},
		{api.Recip, iv(minusZero, minusZero), none},
		{api.Recip, iv(2, inf), iv(0, 0.5)},
		{api.Recip, iv(-inf, -2), iv(-0.5, 0)},
		{api.Recip, iv(0, inf), iv(0, inf)},
		{api.Recip, iv(-inf, 0), iv(-inf, 0)},
		{api.Recip, whole, whole},
		{api.Recip, iv(least, least), iv(most, inf)},
		{api.Recip, iv(-least, -least), iv(-inf, -most)},
		{api.Recip, iv(0x1p1023, most), iv(0x1p-1024, 0x1p-1023)},
	})
}

func TestP6Products(t *testing.T) {
	wantOfTwo(t, "P6", []ofTwo{
		{api.Mul, iv(1, 2), iv(3, 4), iv(3, 8)},
		{api.Mul, iv(-2, -1), iv(3, 4), iv(-8, -3)},
		{api.Mul, iv(-2, -1), iv(-4, -3), iv(3, 8)},
		{api.Mul, iv(-1, 2), iv(-3, 4), iv(-6, 8)},
		{api.Mul, iv(-2, 1), iv(-4, 3), iv(-6, 8)},
		{api.Mul, iv(-1, 2), iv(3, 4), iv(-4, 8)},
		{api.Mul, iv(0, 0), iv(-3, 4), iv(0, 0)},
		{api.Mul, iv(minusZero, minusZero), iv(-3, -1), iv(0, 0)},
		{api.Mul, iv(0, 0), whole, iv(0, 0)},
		{api.Mul, iv(2, inf), iv(0, 0), iv(0, 0)},
		{api.Mul, iv(-inf, -2), iv(0, 0), iv(0, 0)},
		{api.Mul, iv(0, 1), iv(2, inf), iv(0, inf)},
		{api.Mul, iv(0, 1), iv(-inf, 2), iv(-inf, 2)},
		{api.Mul, iv(-1, 0), iv(2, inf), iv(-inf, 0)},
		{api.Mul, iv(-inf, -1), iv(-inf, -2), iv(2, inf)},
		{api.Mul, iv(-1, 1), iv(2, inf), whole},
		{api.Mul, whole, iv(least, least), whole},
		{api.Mul, whole, whole, whole},
		{api.Mul, iv(0, inf), iv(0, inf), iv(0, inf)},
		{api.Mul, iv(0, inf), iv(-inf, 0), iv(-inf, 0)},
		{api.Mul, iv(0x1p1000, 0x1p1000), iv(0x1p1000, 0x1p1000), iv(most, inf)},
		{api.Mul, iv(-0x1p1000, 0x1p1000), iv(0x1p1000, 0x1p1000), whole},
		{api.Mul, iv(0x1p1000, inf), iv(0x1p1000, inf), iv(most, inf)},
		{api.Mul, iv(-most, -most), iv(most, most), iv(-inf, -most)},
		{api.Mul, iv(least, least), iv(least, least), iv(0, least)},
		{api.Mul, iv(-least, -least), iv(least, least), iv(-least, 0)},
		{api.Mul, iv(1+0x1p-52, 1+0x1p-52), iv(1+0x1p-52, 1+0x1p-52), iv(1+0x1p-51, 1+0x1.8p-51)},
	})
}

func TestP6MinAndMax(t *testing.T) {
	wantOfTwo(t, "P6", []ofTwo{
		{api.Min, iv(1, 5), iv(2, 3), iv(1, 3)},
		{api.Min, iv(2, 3), iv(1, 5), iv(1, 3)},
		{api.Min, iv(1, 2), iv(3, 4), iv(1, 2)},
		{api.Min, iv(0, 0), iv(minusZero, minusZero), iv(0, 0)},
		{api.Min, iv(-inf, 1), iv(0, inf), iv(-inf, 1)},
		{api.Min, iv(most, inf), whole, whole},
		{api.Max, iv(1, 5), iv(2, 3), iv(2, 5)},
		{api.Max, iv(2, 3), iv(1, 5), iv(2, 5)},
		{api.Max, iv(1, 2), iv(3, 4), iv(3, 4)},
		{api.Max, iv(minusZero, minusZero), iv(minusZero, minusZero), iv(0, 0)},
		{api.Max, iv(-inf, 1), iv(0, inf), iv(0, inf)},
		{api.Max, iv(-inf, -most), whole, whole},
	})
}

func TestP7Sums(t *testing.T) {
	wantOfTwo(t, "P7", []ofTwo{
		{api.Add, iv(1, 2), iv(3, 4), iv(4, 6)},
		{api.Add, iv(1, 1), iv(0x1p-60, 0x1p-60), iv(1, 1+0x1p-52)},
		{api.Add, iv(1, 1), iv(-0x1p-60, -0x1p-60), iv(1-0x1p-53, 1)},
		{api.Add, iv(minusZero, minusZero), iv(minusZero, 0), iv(0, 0)},
		{api.Add, iv(-1, 1), iv(1, -1), none},
		{api.Add, iv(-least, least), iv(-least, least), iv(-2*least, 2*least)},
		{api.Add, iv(-inf, 1), iv(1, inf), whole},
		{api.Add, iv(-inf, 1), iv(-inf, 2), iv(-inf, 3)},
		{api.Add, iv(1, inf), iv(2, inf), iv(3, inf)},
		{api.Add, iv(1, inf), iv(2, 2), iv(3, inf)},
		{api.Add, iv(2, 2), iv(-inf, 1), iv(-inf, 3)},
		{api.Add, whole, iv(0, 0), whole},
		{api.Add, iv(most, most), iv(1, 2), iv(most, inf)},
		{api.Add, iv(-most, -most), iv(-most, -most), iv(-inf, -most)},
		{api.Add, iv(most, inf), iv(most, inf), iv(most, inf)},
		{api.Add, iv(-most, most), iv(-least, least), whole},
		{api.Sub, iv(1, 2), iv(3, 4), iv(-3, -1)},
		{api.Sub, iv(1, 2), iv(1, 2), iv(-1, 1)},
		{api.Sub, iv(0, 0), iv(0, 0), iv(0, 0)},
		{api.Sub, iv(minusZero, 0), iv(0, 0), iv(0, 0)},
		{api.Sub, iv(1, 2), iv(-inf, 4), iv(-3, inf)},
		{api.Sub, iv(1, 2), iv(4, inf), iv(-inf, -2)},
		{api.Sub, iv(1, inf), iv(4, inf), whole},
		{api.Sub, whole, whole, whole},
		{api.Sub, iv(1, 1), iv(0x1p-60, 0x1p-60), iv(1-0x1p-53, 1)},
		{api.Sub, iv(-most, -most), iv(least, least), iv(-inf, -most)},
	})
}

func TestP7Quotients(t *testing.T) {
	wantOfTwo(t, "P7", []ofTwo{
		{api.Div, iv(4, 8), iv(2, 4), iv(1, 4)},
		{api.Div, iv(4, 8), iv(-4, -2), iv(-4, -1)},
		{api.Div, iv(-8, -4), iv(-4, -2), iv(1, 4)},
		{api.Div, iv(-4, 8), iv(2, 4), iv(-2, 4)},
		{api.Div, iv(-4, 8), iv(-4, -2), iv(-4, 2)},
		{api.Div, iv(1, 1), iv(3, 3), iv(1.0/3, 1.0/3+0x1p-54)},
		{api.Div, iv(most, most), iv(0.5, 0.5), iv(most, inf)},
		{api.Div, iv(-least, least), iv(2, 2), iv(-least, least)},
		{api.Div, iv(least, least), iv(most, most), iv(0, least)},
		{api.Div, iv(-inf, 1), iv(2, 4), iv(-inf, 0.5)},
		{api.Div, iv(1, inf), iv(2, 4), iv(0.25, inf)},
		{api.Div, iv(1, 2), iv(4, inf), iv(0, 0.5)},
		{api.Div, iv(-2, -1), iv(4, inf), iv(-0.5, 0)},
		{api.Div, iv(1, 2), iv(-inf, -4), iv(-0.5, 0)},
		{api.Div, iv(-1, 2), iv(4, inf), iv(-0.25, 0.5)},
		{api.Div, iv(1, inf), iv(1, inf), iv(0, inf)},
		{api.Div, iv(-inf, -1), iv(1, inf), iv(-inf, 0)},
		{api.Div, whole, iv(1, inf), whole},
	})
}

func TestP7QuotientsWithZero(t *testing.T) {
	wantOfTwo(t, "P7", []ofTwo{
		{api.Div, iv(1, 2), iv(-1, 1), whole},
		{api.Div, iv(0, least), iv(-least, least), whole},
		{api.Div, iv(-1, -1), whole, whole},
		{api.Div, iv(1, 2), iv(0, 2), iv(0.5, inf)},
		{api.Div, iv(1, 2), iv(minusZero, 2), iv(0.5, inf)},
		{api.Div, iv(-2, -1), iv(0, 2), iv(-inf, -0.5)},
		{api.Div, iv(1, 2), iv(-2, 0), iv(-inf, -0.5)},
		{api.Div, iv(1, 2), iv(-2, minusZero), iv(-inf, -0.5)},
		{api.Div, iv(-2, -1), iv(-2, 0), iv(0.5, inf)},
		{api.Div, iv(0, 1), iv(0, 1), iv(0, inf)},
		{api.Div, iv(-1, 0), iv(0, 1), iv(-inf, 0)},
		{api.Div, iv(0, 1), iv(-1, 0), iv(-inf, 0)},
		{api.Div, iv(-1, 1), iv(0, 1), whole},
		{api.Div, iv(1, 2), iv(0, inf), iv(0, inf)},
		{api.Div, iv(-inf, -1), iv(-inf, 0), iv(0, inf)},
		{api.Div, iv(1, 1), iv(0, most), iv(0x0.4p-1022, inf)},
		{api.Div, iv(0, 0), iv(-1, 1), iv(0, 0)},
		{api.Div, iv(minusZero, minusZero), iv(-1, 0), iv(0, 0)},
		{api.Div, iv(0, 0), iv(0, 1), iv(0, 0)},
		{api.Div, iv(0, 0), iv(3, 4), iv(0, 0)},
		{api.Div, iv(0, 0), iv(-inf, 0), iv(0, 0)},
		{api.Div, iv(0, 0), whole, iv(0, 0)},
		{api.Div, iv(0, 0), iv(0, 0), none},
		{api.Div, iv(1, 2), iv(0, 0), none},
		{api.Div, iv(1, 2), iv(minusZero, minusZero), none},
		{api.Div, whole, iv(0, 0), none},
	})
}

// TestP6Empty: the empty one, and what is none, has no numbers to work on.
func TestP6Empty(t *testing.T) {
	for _, bad := range append(notIntervals(), none) {
		for op := api.Neg; op <= api.Max; op++ {
			for _, good := range []api.Interval{iv(1, 2), iv(0, 0), whole, none} {
				wantOfTwo(t, "P6", []ofTwo{{op, bad, good, none}})
				if op >= api.Add {
					wantOfTwo(t, "P6", []ofTwo{{op, good, bad, none}})
				}
			}
		}
	}
}

func TestP6OtherOperations(t *testing.T) {
	for _, op := range anyOps() {
		if op >= api.Neg && op <= api.Max {
			continue
		}
		for _, a := range []api.Interval{iv(1, 2), iv(0, 0), whole, none, iv(nan, nan)} {
			wantOfTwo(t, "P6", []ofTwo{{op, a, iv(1, 2), none}, {op, iv(1, 2), a, none}})
		}
	}
}

// ends are such that the intervals of two of them lie in all ways about 0 and
// without a bound, and that results are not numbers, or lie beyond them.
func ends() []float64 {
	return []float64{-inf, -most, -0x1p600, -3, -1.1, -1, -0x1p-600, -least, 0, least, 0x1p-600, normal, 0.1, 1, 3, 0x1.fffffffffffffp53, 0x1p600, most, inf}
}

func intervals(xs []float64) []api.Interval {
	var all []api.Interval
	for _, lo := range xs {
		for _, hi := range xs {
			if a, ok := spans.New(lo, hi); ok {
				all = append(all, a)
			}
		}
	}
	return all
}

// ray is a real, or, if it has none, an infinity.
type ray struct {
	real *big.Rat
	sign int
}

func rayOf(x float64) ray {
	if math.IsInf(x, 0) {
		return ray{sign: int(math.Copysign(1, x))}
	}
	r := new(big.Rat).SetFloat64(x)
	return ray{real: r, sign: r.Sign()}
}

func (r ray) less(s ray) bool {
	if r.real != nil && s.real != nil {
		return r.real.Cmp(s.real) < 0
	}
	if r.real == nil && s.real == nil {
		return r.sign < s.sign
	}
	return r.real == nil && r.sign < 0 || s.real == nil && s.sign > 0
}

// times has 0 for 0 times an infinity.
func (r ray) times(s ray) ray {
	switch {
	case r.sign == 0 || s.sign == 0:
		return rayOf(0)
	case r.real == nil || s.real == nil:
		return ray{sign: r.sign * s.sign}
	}
	return ray{real: new(big.Rat).Mul(r.real, s.real), sign: r.sign * s.sign}
}

// inverse is 1 divided by r, that of 0 the infinity on the given side.
func (r ray) inverse(side int) ray {
	switch {
	case r.real == nil:
		return rayOf(0)
	case r.sign == 0:
		return ray{sign: side}
	}
	return ray{real: new(big.Rat).Inv(r.real), sign: r.sign}
}

func (r ray) plus(s ray) ray {
	switch {
	case r.real == nil:
		return r
	case s.real == nil:
		return s
	}
	sum := new(big.Rat).Add(r.real, s.real)
	return ray{real: sum, sign: sum.Sign()}
}

// rounded goes from the nearest number to the next one, if that lies on the
// wrong side.
func (r ray) rounded(up bool) float64 {
	if r.real == nil {
		return float64(r.sign) * inf
	}
	x, _ := r.real.Float64()
	if up && rayOf(x).less(r) {
		x = math.Nextafter(x, inf)
	}
	if !up && r.less(rayOf(x)) {
		x = math.Nextafter(x, -inf)
	}
	return plain(x)
}

// hull is the least interval that has all of these.
func hull(all []ray) api.Interval {
	if len(all) == 0 {
		return none
	}
	lo, hi := all[0], all[0]
	for _, r := range all {
		if r.less(lo) {
			lo = r
		}
		if hi.less(r) {
			hi = r
		}
	}
	return iv(lo.rounded(false), hi.rounded(true))
}

func products(a []ray, b []ray) []ray {
	var all []ray
	for _, x := range a {
		for _, y := range b {
			all = append(all, x.times(y))
		}
	}
	return all
}

func raysOf(a api.Interval) []ray { return []ray{rayOf(a.Lo), rayOf(a.Hi)} }

// inverses are those of the ends of a below 0, and of a above 0.
func inverses(a api.Interval) []ray {
	var all []ray
	if a.Lo < 0 {
		all = append(all, rayOf(a.Lo).inverse(-1), rayOf(min(a.Hi, 0)).inverse(-1))
	}
	if a.Hi > 0 {
		all = append(all, rayOf(max(a.Lo, 0)).inverse(1), rayOf(a.Hi).inverse(1))
	}
	return all
}

func squares(a api.Interval) []ray {
	all := []ray{rayOf(a.Lo).times(rayOf(a.Lo)), rayOf(a.Hi).times(rayOf(a.Hi))}
	if a.Lo < 0 && a.Hi > 0 {
		all = append(all, rayOf(0))
	}
	return all
}

// TestP6Least holds Apply against fractions worked out in full: each part of
// an operation rises or falls all along, so its ends tell its hull.
func TestP6Least(t *testing.T) {
	for _, a := range intervals(ends()) {
		wantOfOne(t, "P6", []ofOne{{api.Sqr, a, hull(squares(a))}, {api.Recip, a, hull(inverses(a))}})
		for _, b := range intervals(ends()) {
			lo, hi := rayOf(a.Lo).plus(rayOf(b.Lo)), rayOf(a.Hi).plus(rayOf(b.Hi))
			under, over := rayOf(a.Lo).plus(rayOf(-b.Hi)), rayOf(a.Hi).plus(rayOf(-b.Lo))
			wantOfTwo(t, "P6", []ofTwo{
				{api.Add, a, b, hull([]ray{lo, hi})},
				{api.Sub, a, b, hull([]ray{under, over})},
				{api.Mul, a, b, hull(products(raysOf(a), raysOf(b)))},
				{api.Div, a, b, hull(products(raysOf(a), inverses(b)))},
			})
		}
	}
}

// numbersOf are some numbers of a: its ends, those next to them, and others.
func numbersOf(a api.Interval, r *rand.Rand) []float64 {
	some := []float64{a.Lo, a.Hi, math.Nextafter(a.Lo, inf), math.Nextafter(a.Hi, -inf), 0, least, -least, 1, -1, a.Lo/2 + a.Hi/2, 2 * a.Lo, a.Hi / 2, math.Float64frombits(r.Uint64())}
	var all []float64
	for _, x := range some {
		if finite(x) && a.Lo <= x && x <= a.Hi {
			all = append(all, x)
		}
	}
	return all
}

// wantHeld: the real results at numbers of a and b lie in what Apply answers,
// so their roundings down and up do.
func wantHeld(t *testing.T, op api.Op, a api.Interval, b api.Interval, r *rand.Rand) {
	t.Helper()
	got := spans.Apply(op, a, b)
	for _, x := range numbersOf(a, r) {
		for _, y := range numbersOf(b, r) {
			if !defined(op, x, y) {
				continue
			}
			if got.Lo > spans.Round(op, x, y, false) || got.Hi < spans.Round(op, x, y, true) {
				t.Errorf("P6: Apply(%d, %x, %x) = %x has not what comes of %x and %x", op, a, b, got, x, y)
			}
		}
	}
}

// TestP6Holds: at any bits, what comes of numbers that lie in the intervals is
// held.
func TestP6Holds(t *testing.T) {
	r := rand.New(rand.NewSource(4))
	var xs []float64
	for range 24 {
		xs = append(xs, math.Float64frombits(r.Uint64()))
	}
	all := intervals(append(xs, 0, 1, -1, inf, -inf))
	for range 3000 {
		a, b := all[r.Intn(len(all))], all[r.Intn(len(all))]
		for _, op := range roundOps {
			wantHeld(t, op, a, b, r)
		}
	}
}

// TestP6EndsReached: of the operations that are exact, the ends are results.
func TestP6EndsReached(t *testing.T) {
	for _, a := range intervals(ends()) {
		lo, hi := math.Abs(a.Lo), math.Abs(a.Hi)
		abs := iv(min(lo, hi), max(lo, hi))
		if a.Lo < 0 && a.Hi > 0 {
			abs.Lo = 0
		}
		wantOfOne(t, "P6", []ofOne{
			{api.Neg, a, iv(plain(-a.Hi), plain(-a.Lo))},
			{api.Abs, a, abs},
			{api.Floor, a, iv(plain(math.Floor(a.Lo)), plain(math.Floor(a.Hi)))},
		})
		for _, b := range intervals(ends()) {
			wantOfTwo(t, "P6", []ofTwo{
				{api.Min, a, b, iv(math.Min(a.Lo, b.Lo), math.Min(a.Hi, b.Hi))},
				{api.Max, a, b, iv(math.Max(a.Lo, b.Lo), math.Max(a.Hi, b.Hi))},
			})
		}
	}
}

// TestP6Roots: the root of an interval that has no number below 0 is
// where Round puts it, and no wider.
func TestP6Roots(t *testing.T) {
	for _, x := range edges() {
		for _, y := range edges() {
			if x < 0 || y < x {
				continue
			}
			want := iv(spans.Round(api.Sqrt, x, 0, false), spans.Round(api.Sqrt, y, 0, true))
			wantOfOne(t, "P6", []ofOne{{api.Sqrt, iv(x, y), want}})
			if x > 0 {
				under := iv(0, want.Hi)
				wantOfOne(t, "P6", []ofOne{{api.Sqrt, iv(-x, y), under}, {api.Sqrt, iv(-inf, y), under}, {api.Sqrt, iv(-y, -x), none}})
			}
		}
	}
}

// wantInterval: what comes out is an interval, in plain numbers.
func wantInterval(t *testing.T, call string, a api.Interval) {
	t.Helper()
	wantSound(t, call, a.Lo, false)
	wantSound(t, call, a.Hi, false)
	if a != none && (a.Lo > a.Hi || a.Lo == inf || a.Hi == -inf) {
		t.Errorf("P1: %s: %x came out, which is no interval", call, a)
	}
}

// TestP1IntervalsOfAllBits: at any ends and operations the calls end without a
// panic, and an interval comes out, without a NaN or a -0.
func TestP1IntervalsOfAllBits(t *testing.T) {
	others := append(notIntervals(), none, whole, iv(minusZero, minusZero), iv(-1, minusZero), iv(minusZero, 1), iv(-1, 1), iv(1, 2), iv(-inf, -1))
	for _, lo := range anyBits() {
		for _, hi := range anyBits() {
			a, _ := spans.New(lo, hi)
			wantInterval(t, "New", a)
			other := others[int(math.Float64bits(lo)^math.Float64bits(hi)>>7)&math.MaxInt%len(others)]
			for _, op := range anyOps() {
				wantInterval(t, "Apply", spans.Apply(op, iv(lo, hi), other))
				wantInterval(t, "Apply", spans.Apply(op, other, iv(lo, hi)))
			}
		}
	}
}

// TestP2IntervalsNothingKept: an answer does not hang on what was asked before,
// and the intervals handed in stay as they were.
func TestP2IntervalsNothingKept(t *testing.T) {
	all := append(intervals(ends()), notIntervals()...)
	for i := range all {
		for _, op := range anyOps() {
			a, b := all[i], all[len(all)-1-i]
			first := spans.Apply(op, a, b)
			spans.Apply(op, b, a)
			spans.New(b.Lo, a.Hi)
			if again := spans.Apply(op, a, b); !sameEnds(first, again) {
				t.Errorf("P2: Apply(%d, %x, %x) = %x, then %x", op, a, b, first, again)
			}
			if !sameEnds(a, all[i]) || !sameEnds(b, all[len(all)-1-i]) {
				t.Errorf("P2: Apply(%d, %x, %x) wrote into an interval", op, all[i], all[len(all)-1-i])
			}
		}
	}
}

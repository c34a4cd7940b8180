package spans

import (
	"math"

	"spans/api"
)

// operation is what one of Apply's operations does. The field that is set
// tells how many intervals it takes; its function is handed settled ones that
// have numbers.
type operation struct {
	ofOne func(a api.Interval) api.Interval
	ofTwo func(a api.Interval, b api.Interval) api.Interval
}

// operationOf has no field set if op is none of Apply's.
func operationOf(op api.Op) operation {
	switch op {
	case api.Neg:
		return operation{ofOne: negative}
	case api.Abs:
		return operation{ofOne: absolute}
	case api.Sqr:
		return operation{ofOne: square}
	case api.Sqrt:
		return operation{ofOne: root}
	case api.Floor:
		return operation{ofOne: floor}
	case api.Recip:
		return operation{ofOne: reciprocal}
	case api.Add:
		return operation{ofTwo: sum}
	case api.Sub:
		return operation{ofTwo: difference}
	case api.Mul:
		return operation{ofTwo: product}
	case api.Div:
		return operation{ofTwo: quotient}
	case api.Min:
		return operation{ofTwo: lesser}
	case api.Max:
		return operation{ofTwo: greater}
	}
	return operation{}
}

func negative(a api.Interval) api.Interval {
	return api.Interval{Lo: plainZero(-a.Hi), Hi: plainZero(-a.Lo)}
}

func absolute(a api.Interval) api.Interval {
	// Of a.Lo and -a.Hi, one is above 0 only if all of a lies on one side of 0.
	return api.Interval{Lo: max(a.Lo, -a.Hi, 0), Hi: max(-a.Lo, a.Hi)}
}

func square(a api.Interval) api.Interval {
	a = absolute(a)
	return api.Interval{Lo: productEnd(a.Lo, a.Lo, false), Hi: productEnd(a.Hi, a.Hi, true)}
}

func root(a api.Interval) api.Interval {
	if a.Hi < 0 {
		return empty()
	}
	return api.Interval{Lo: rootEnd(max(a.Lo, 0), false), Hi: rootEnd(a.Hi, true)}
}

func floor(a api.Interval) api.Interval {
	return api.Interval{Lo: math.Floor(a.Lo), Hi: math.Floor(a.Hi)}
}

func reciprocal(a api.Interval) api.Interval {
	return quotient(api.Interval{Lo: 1, Hi: 1}, a)
}

func sum(a api.Interval, b api.Interval) api.Interval {
	return api.Interval{Lo: sumEnd(a.Lo, b.Lo, false), Hi: sumEnd(a.Hi, b.Hi, true)}
}

func difference(a api.Interval, b api.Interval) api.Interval {
	return sum(a, negative(b))
}

func product(a api.Interval, b api.Interval) api.Interval {
	return api.Interval{
		Lo: min(productEnd(a.Lo, b.Lo, false), productEnd(a.Lo, b.Hi, false), productEnd(a.Hi, b.Lo, false), productEnd(a.Hi, b.Hi, false)),
		Hi: max(productEnd(a.Lo, b.Lo, true), productEnd(a.Lo, b.Hi, true), productEnd(a.Hi, b.Lo, true), productEnd(a.Hi, b.Hi, true)),
	}
}

func quotient(a api.Interval, b api.Interval) api.Interval {
	zero := api.Interval{}
	switch {
	case b == zero:
		return empty()
	case a == zero:
		return zero
	case b.Lo < 0 && b.Hi > 0:
		return allReals()
	case b.Lo < 0:
		return quotientByPositive(negative(a), negative(b))
	}
	return quotientByPositive(a, b)
}

// quotientByPositive is a divided by the numbers of b above 0, of which there
// are some; none of them is below 0.
func quotientByPositive(a api.Interval, b api.Interval) api.Interval {
	// Divided by the least of b, a number goes furthest from 0; by the greatest,
	// it comes nearest to it.
	byLo, byHi := b.Lo, b.Lo
	if a.Lo >= 0 {
		byLo = b.Hi
	}
	if a.Hi <= 0 {
		byHi = b.Hi
	}
	return api.Interval{Lo: quotientEnd(a.Lo, byLo, false), Hi: quotientEnd(a.Hi, byHi, true)}
}

func lesser(a api.Interval, b api.Interval) api.Interval {
	return api.Interval{Lo: min(a.Lo, b.Lo), Hi: min(a.Hi, b.Hi)}
}

func greater(a api.Interval, b api.Interval) api.Interval {
	return api.Interval{Lo: max(a.Lo, b.Lo), Hi: max(a.Hi, b.Hi)}
}

// sumEnd is the sum of two ends of the same side.
func sumEnd(x float64, y float64, up bool) float64 {
	if isFinite(x) && isFinite(y) {
		return Round(api.Add, x, y, up)
	}
	// Two infinite ends of the same side are the same, so this is no NaN.
	return x + y
}

// productEnd is the product of two ends.
func productEnd(x float64, y float64, up bool) float64 {
	switch {
	case x == 0 || y == 0:
		// Even if the other end is infinite: it is no number of its interval,
		// and 0 times each that is makes 0.
		return 0
	case isFinite(x) && isFinite(y):
		return Round(api.Mul, x, y, up)
	}
	return x * y
}

// quotientEnd is the quotient of two ends, where y is the end of numbers above
// 0. If it is 0, or x is infinite, there is no bound on the side of x, which is
// then not 0.
func quotientEnd(x float64, y float64, up bool) float64 {
	switch {
	case !isFinite(x) || y == 0:
		return math.Copysign(math.Inf(1), x)
	case !isFinite(y):
		return 0
	}
	return Round(api.Div, x, y, up)
}

// rootEnd is the root of an end that is not below 0.
func rootEnd(x float64, up bool) float64 {
	if !isFinite(x) {
		return x
	}
	return Round(api.Sqrt, x, 0, up)
}

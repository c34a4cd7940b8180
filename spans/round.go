// Package spans: intervals that hold every real result: see DOC.md.
package spans

import (
	"math"

	"spans/api"
	"spans/exact"
)

// Up is the next number above (P3).
func Up(x float64) float64 {
	b := math.Float64bits(x)
	switch {
	case math.IsNaN(x), math.IsInf(x, 1):
		return x
	case x == 0:
		return math.SmallestNonzeroFloat64
	case x > 0:
		// The bits of the numbers above 0 are in the numbers' own order.
		b++
	default:
		b--
	}
	return plainZero(math.Float64frombits(b))
}

// Down is the next number below (P3).
func Down(x float64) float64 { return plainZero(-Up(-x)) }

// Round is the result of an operation on two numbers, rounded down or up (P4).
func Round(op api.Op, x float64, y float64, up bool) float64 {
	if !hasRealResult(op, x, y) {
		return math.NaN()
	}
	return realResult(op, x, y).Rounded(up)
}

// hasRealResult tells whether op is one of Round's and is defined at x and y.
func hasRealResult(op api.Op, x float64, y float64) bool {
	switch op {
	case api.Div:
		if y == 0 {
			return false
		}
		fallthrough
	case api.Add, api.Sub, api.Mul:
		return isFinite(x) && isFinite(y)
	case api.Sqrt:
		// Of one number: whatever y is, it is not taken.
		return isFinite(x) && x >= 0
	}
	return false
}

// realResult is what op makes of x and y, where hasRealResult holds.
func realResult(op api.Op, x float64, y float64) exact.Real {
	switch op {
	case api.Sub:
		y = -y
		fallthrough
	case api.Add:
		return exact.Sum(x, y)
	case api.Mul:
		return exact.Product(x, y)
	case api.Div:
		return exact.Quotient(x, y)
	default:
		return exact.Root(x)
	}
}

func isFinite(x float64) bool { return math.Abs(x) <= math.MaxFloat64 }

// plainZero makes +0 of -0, which must not come out.
func plainZero(x float64) float64 {
	if x == 0 {
		return 0
	}
	return x
}

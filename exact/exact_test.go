package exact

import (
	"math"
	"testing"
)

const (
	most  = math.MaxFloat64
	least = math.SmallestNonzeroFloat64
)

var (
	inf       = math.Inf(1)
	minusZero = math.Copysign(0, -1)
)

func check(t *testing.T, name string, r Real, down float64, up float64) {
	t.Helper()
	if d := r.Rounded(false); math.Float64bits(d) != math.Float64bits(down) {
		t.Errorf("%s rounded down: %x, want %x", name, d, down)
	}
	if u := r.Rounded(true); math.Float64bits(u) != math.Float64bits(up) {
		t.Errorf("%s rounded up: %x, want %x", name, u, up)
	}
}

func TestSplitLosesNothing(t *testing.T) {
	for _, x := range []float64{1, -1, 0.1, -3e300, least, -least, 3 * least, 0x1p-1022, 0x0.fffffffffffffp-1022, 0x1.8p-1021, most, -most} {
		check(t, "split", split(x), x, x)
	}
	check(t, "split of 0", split(0), 0, 0)
	check(t, "split of -0", split(minusZero), 0, 0)
}

// TestSumAcrossGaps: at each distance the lesser one must still be felt.
func TestSumAcrossGaps(t *testing.T) {
	above, below := 1+0x1p-52, 1-0x1p-53
	for gap := 54; gap <= 1074; gap++ {
		tiny := math.Ldexp(1, -gap)
		check(t, "1 + tiny", Sum(1, tiny), 1, above)
		check(t, "tiny + 1", Sum(tiny, 1), 1, above)
		check(t, "1 - tiny", Sum(1, -tiny), below, 1)
		check(t, "tiny - 1", Sum(tiny, -1), -1, -below)
		check(t, "-1 - tiny", Sum(-1, -tiny), -above, -1)
	}
	for gap := 0; gap <= 52; gap++ {
		part := math.Ldexp(1, -gap)
		check(t, "1 + part", Sum(1, part), 1+part, 1+part)
		check(t, "part - 1", Sum(part, -1), part-1, part-1)
	}
}

// TestSumCarries: two great wholes must not run over, however far apart.
func TestSumCarries(t *testing.T) {
	full := 0x1.fffffffffffffp0
	check(t, "full + full", Sum(full, full), 2*full, 2*full)
	for gap := 1; gap <= 52; gap++ {
		up := math.Ldexp(1, gap+1) + 2
		check(t, "full + lesser full", Sum(math.Ldexp(full, gap), full), math.Nextafter(up, 0), up)
	}
}

func TestSumCancels(t *testing.T) {
	check(t, "0.1 - 0.1", Sum(0.1, -0.1), 0, 0)
	check(t, "-0 + -0", Sum(minusZero, minusZero), 0, 0)
	check(t, "neighbours", Sum(1+0x1p-52, -1), 0x1p-52, 0x1p-52)
	check(t, "neighbours of two sizes", Sum(1, -(1-0x1p-53)), 0x1p-53, 0x1p-53)
	check(t, "the least numbers", Sum(0x1p-1022, -0x0.fffffffffffffp-1022), least, least)
	check(t, "the greater one below 0", Sum(1, -1.5), -0.5, -0.5)
	check(t, "between two numbers", Sum(0x1p60, -1.75), 0x1p60-128, 0x1p60)
	check(t, "just above a number", Sum(0x1p64+0x1p12, -0x1.ffffffffffffep11), 0x1p64, 0x1p64+0x1p12)
	check(t, "most - least", Sum(most, -least), 0x1.ffffffffffffep1023, most)
	check(t, "most + most", Sum(most, most), most, inf)
}

func TestProduct(t *testing.T) {
	check(t, "3 * 4", Product(3, 4), 12, 12)
	check(t, "-0 * 5", Product(minusZero, 5), 0, 0)
	check(t, "0 * -most", Product(0, -most), 0, 0)
	check(t, "square above 1", Product(1+0x1p-52, 1+0x1p-52), 1+0x1p-51, 1+0x1.8p-51)
	check(t, "square below 1", Product(1-0x1p-53, 1-0x1p-53), 1-0x1p-52, 1-0x1p-53)
	check(t, "carried to the next size", Product(1-0x1p-53, 1+0x1p-52), 1, 1+0x1p-52)
	check(t, "least * least", Product(least, least), 0, least)
	check(t, "-least * least", Product(-least, least), -least, 0)
	check(t, "carried out of the least numbers", Product(0x1.fffffffffffffp-1022, 0.5), 0x0.fffffffffffffp-1022, 0x1p-1022)
	check(t, "most * most", Product(most, -most), -inf, -most)
	check(t, "2^1024", Product(0x1p512, 0x1p512), most, inf)
	check(t, "just below 2^1024", Product(0x1.fffffffffffffp511, 0x1.0000000000001p512), most, inf)
}

func TestQuotient(t *testing.T) {
	check(t, "9 / 3", Quotient(9, 3), 3, 3)
	check(t, "0 / -3", Quotient(0, -3), 0, 0)
	check(t, "1 / 3", Quotient(1, 3), 1.0/3, 1.0/3+0x1p-54)
	check(t, "-1 / 3", Quotient(-1, 3), -1.0/3-0x1p-54, -1.0/3)
	check(t, "x / x", Quotient(0.1, -0.1), -1, -1)
	check(t, "most / least", Quotient(most, least), most, inf)
	check(t, "least / -most", Quotient(least, -most), -least, 0)
	check(t, "least / least", Quotient(3*least, least), 3, 3)
	check(t, "halves of the least", Quotient(3*least, 2), least, 2*least)
}

func TestRoot(t *testing.T) {
	check(t, "root of 0", Root(0), 0, 0)
	check(t, "root of -0", Root(minusZero), 0, 0)
	check(t, "root of 2", Root(2), math.Sqrt2-0x1p-52, math.Sqrt2)
	check(t, "root of most", Root(most), 0x1.fffffffffffffp511, 0x1p512)
	check(t, "root just above 1", Root(1+0x1p-52), 1, 1+0x1p-52)
	check(t, "root just below 1", Root(1-0x1p-53), 1-0x1p-53, 1)
	for exponent := -537; exponent <= 511; exponent++ {
		root := math.Ldexp(1, exponent)
		check(t, "root of a power of 4", Root(root*root), root, root)
	}
	for exponent := -524; exponent <= 508; exponent++ {
		root := math.Ldexp(0x1.2345678p2, exponent)
		if exponent < -508 {
			root = math.Ldexp(5, exponent)
		}
		check(t, "root of a square", Root(root*root), root, root)
	}
}

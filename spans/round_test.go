package spans_test

import (
	"math"
	"math/big"
	"math/rand"
	"testing"

	"spans/api"
	"spans/spans"
)

const (
	most      = math.MaxFloat64
	justUnder = 0x1.ffffffffffffep1023
	least     = math.SmallestNonzeroFloat64
	normal    = 0x1p-1022
)

var (
	inf, nan  = math.Inf(1), math.NaN()
	minusZero = math.Copysign(0, -1)
)

// roundOps are the operations that Round has.
var roundOps = []api.Op{api.Add, api.Sub, api.Mul, api.Div, api.Sqrt}

// same: to the bit, or both NaNs.
func same(x float64, y float64) bool {
	return math.Float64bits(x) == math.Float64bits(y) || x != x && y != y
}

func finite(x float64) bool { return !math.IsNaN(x) && !math.IsInf(x, 0) }

// edges: finite numbers about the places where something changes, of both signs.
func edges() []float64 {
	above := []float64{0, least, 2 * least, 3 * least, 5 * least, normal / 2, normal - least, normal, normal + least, 2*normal - least, 2 * normal, 0x1p-600, 0x1p-538, 0x1p-537, 0x1.8p-537, 0x1p-511, 0x1p-60, 0x1p-53, 0x1p-52, 0.1, 0.2, 1.0 / 3, 0.5, 1 - 0x1p-53, 1, 1 + 0x1p-52, 1.5, 2, 3, 0x1p53 - 1, 0x1p53, 0x1p53 + 2, 0x1p64, 1e22, 0x1p511, 0x1.fffffffffffffp511, 0x1p512, 0x1.0000000000001p512, 0x1p970, 0x1p971, 0x1p1000, 0x1p1023, justUnder, most}
	var all []float64
	for _, x := range above {
		all = append(all, x, -x, math.Copysign(x, -1))
	}
	return all
}

// anyBits: numbers of all kinds, not finite ones and NaNs of several bits among them.
func anyBits() []float64 {
	all := append(edges(), inf, -inf, nan, math.Float64frombits(0x7ff0000000000001), math.Float64frombits(0xfff8000000000000), math.Float64frombits(math.MaxUint64))
	r := rand.New(rand.NewSource(1))
	for range 30 {
		all = append(all, math.Float64frombits(r.Uint64()))
	}
	return all
}

// anyOps: all operations, and numbers that are none.
func anyOps() []api.Op {
	all := []api.Op{math.MinInt, -1, 99, math.MaxInt}
	for op := api.Neg; op <= api.Var+1; op++ {
		all = append(all, op)
	}
	return all
}

func TestP3Edges(t *testing.T) {
	for _, c := range []struct{ x, down, up float64 }{
		{0, -least, least},
		{minusZero, -least, least},
		{least, 0, 2 * least},
		{-least, -2 * least, 0},
		{normal, normal - least, normal + least},
		{-normal, -normal - least, -normal + least},
		{1, 1 - 0x1p-53, 1 + 0x1p-52},
		{-1, -1 - 0x1p-52, -1 + 0x1p-53},
		{0x1p53, 0x1p53 - 1, 0x1p53 + 2},
		{most, justUnder, inf},
		{-most, -inf, -justUnder},
		{justUnder, 0x1.ffffffffffffdp1023, most},
		{inf, most, inf},
		{-inf, -inf, -most},
		{nan, nan, nan},
		{-nan, nan, nan},
		{math.Float64frombits(0x7ff0000000000001), nan, nan},
	} {
		if d, u := spans.Down(c.x), spans.Up(c.x); !same(d, c.down) || !same(u, c.up) {
			t.Errorf("P3: Down(%x) = %x, Up = %x, want %x, %x", c.x, d, u, c.down, c.up)
		}
	}
}

func TestP3Neighbours(t *testing.T) {
	for _, x := range anyBits() {
		// The library's own -0 is not ours: adding 0 makes it +0.
		down, up := math.Nextafter(x, -inf)+0, math.Nextafter(x, inf)+0
		if d, u := spans.Down(x), spans.Up(x); !same(d, down) || !same(u, up) {
			t.Errorf("P3: Down(%x) = %x, Up = %x, want %x, %x", x, d, u, down, up)
		}
		if !finite(x) || !finite(up) || !finite(down) {
			continue
		}
		if spans.Down(spans.Up(x)) != x || spans.Up(spans.Down(x)) != x {
			t.Errorf("P3: there and back from %x: %x, %x", x, spans.Down(spans.Up(x)), spans.Up(spans.Down(x)))
		}
	}
}

func TestP4Examples(t *testing.T) {
	for _, c := range []struct {
		op             api.Op
		x, y, down, up float64
	}{
		{api.Add, 1, 2, 3, 3},
		{api.Add, 1, 0x1p-60, 1, 1 + 0x1p-52},
		{api.Add, 1, -0x1p-60, 1 - 0x1p-53, 1},
		{api.Add, 1, -1, 0, 0},
		{api.Add, minusZero, minusZero, 0, 0},
		{api.Add, minusZero, 0, 0, 0},
		{api.Add, most, least, most, inf},
		{api.Add, -most, -least, -inf, -most},
		{api.Add, most, most, most, inf},
		{api.Add, -most, most, 0, 0},
		{api.Add, least, least, 2 * least, 2 * least},
		{api.Sub, 3, 5, -2, -2},
		{api.Sub, 1, 0x1p-60, 1 - 0x1p-53, 1},
		{api.Sub, 0x1p-60, 1, -1, -1 + 0x1p-53},
		{api.Sub, minusZero, 0, 0, 0},
		{api.Sub, -most, most, -inf, -most},
		{api.Mul, 3, -4, -12, -12},
		{api.Mul, minusZero, 7, 0, 0},
		{api.Mul, 0x1p1000, 0x1p1000, most, inf},
		{api.Mul, 0x1p512, -0x1p512, -inf, -most},
		{api.Mul, 0x1p-600, 0x1p-600, 0, least},
		{api.Mul, 0x1p-600, -0x1p-600, -least, 0},
		{api.Mul, least, 1.5, least, 2 * least},
		{api.Div, 1, 3, 1.0 / 3, 1.0/3 + 0x1p-54},
		{api.Div, 9, -3, -3, -3},
		{api.Div, minusZero, 3, 0, 0},
		{api.Div, most, 0.5, most, inf},
		{api.Div, -most, least, -inf, -most},
		{api.Div, least, 2, 0, least},
		{api.Div, least, -most, -least, 0},
		{api.Sqrt, 9, 1, 3, 3},
		{api.Sqrt, 2, 1, math.Sqrt2 - 0x1p-52, math.Sqrt2},
		{api.Sqrt, 0, 1, 0, 0},
		{api.Sqrt, minusZero, 1, 0, 0},
		{api.Sqrt, least, 1, 0x1p-537, 0x1p-537},
		{api.Sqrt, 2 * least, 1, 0x1.6a09e667f3bccp-537, 0x1.6a09e667f3bcdp-537},
		{api.Sqrt, most, 1, 0x1.fffffffffffffp511, 0x1p512},
	} {
		if d, u := spans.Round(c.op, c.x, c.y, false), spans.Round(c.op, c.x, c.y, true); !same(d, c.down) || !same(u, c.up) {
			t.Errorf("P4: Round(%d, %x, %x) = %x down, %x up, want %x, %x", c.op, c.x, c.y, d, u, c.down, c.up)
		}
	}
}

func TestP4NaN(t *testing.T) {
	for _, bad := range []float64{inf, -inf, nan} {
		for _, op := range []api.Op{api.Add, api.Sub, api.Mul, api.Div} {
			for _, good := range edges() {
				wantNaN(t, op, bad, good)
				wantNaN(t, op, good, bad)
			}
			wantNaN(t, op, bad, bad)
		}
		wantNaN(t, api.Sqrt, bad, 1)
	}
	for _, x := range edges() {
		wantNaN(t, api.Div, x, 0)
		wantNaN(t, api.Div, x, minusZero)
		if x < 0 {
			wantNaN(t, api.Sqrt, x, 1)
		}
	}
	for _, op := range anyOps() {
		if op != api.Sqrt && (op < api.Add || op > api.Div) {
			wantNaN(t, op, 4, 2)
			wantNaN(t, op, 0, 0)
		}
	}
}

func wantNaN(t *testing.T, op api.Op, x float64, y float64) {
	t.Helper()
	for _, up := range []bool{false, true} {
		if z := spans.Round(op, x, y, up); !math.IsNaN(z) {
			t.Errorf("P4: Round(%d, %x, %x, %t) = %x, want a NaN", op, x, y, up, z)
		}
	}
}

// TestP4RootTakesOne: what stands in the second place of a root does not matter.
func TestP4RootTakesOne(t *testing.T) {
	for _, y := range anyBits() {
		for _, up := range []bool{false, true} {
			if z := spans.Round(api.Sqrt, 4, y, up); !same(z, 2) {
				t.Errorf("P4: Round(Sqrt, 4, %x, %t) = %x, want 2", y, up, z)
			}
		}
	}
}

// compare is the sign of z less the real result of op at x and y, worked out
// with as many bits as it takes.
func compare(op api.Op, z float64, x float64, y float64) int {
	if math.IsInf(z, 0) {
		return int(math.Copysign(1, z))
	}
	a, b, c := wide(x), wide(y), wide(z)
	switch op {
	case api.Add:
		return c.Cmp(wide(0).Add(a, b))
	case api.Sub:
		return c.Cmp(wide(0).Sub(a, b))
	case api.Mul:
		return c.Cmp(wide(0).Mul(a, b))
	case api.Div:
		return wide(0).Mul(c, b).Cmp(a) * b.Sign()
	}
	if z < 0 {
		return -1
	}
	return wide(0).Mul(c, c).Cmp(a)
}

func wide(x float64) *big.Float {
	return new(big.Float).SetPrec(5000).SetFloat64(x)
}

// wantRounded holds both roundings against what rounding is: no number that
// is nearer lies on the right side.
func wantRounded(t *testing.T, op api.Op, x float64, y float64) {
	t.Helper()
	d, u := spans.Round(op, x, y, false), spans.Round(op, x, y, true)
	if math.IsNaN(d) || compare(op, d, x, y) > 0 || compare(op, math.Nextafter(d, inf), x, y) <= 0 {
		t.Errorf("P4: Round(%d, %x, %x, false) = %x", op, x, y, d)
	}
	if math.IsNaN(u) || compare(op, u, x, y) < 0 || compare(op, math.Nextafter(u, -inf), x, y) >= 0 {
		t.Errorf("P4: Round(%d, %x, %x, true) = %x", op, x, y, u)
	}
	if same(d, minusZero) || same(u, minusZero) {
		t.Errorf("P1: Round(%d, %x, %x): -0 came out", op, x, y)
	}
}

func defined(op api.Op, x float64, y float64) bool {
	return finite(x) && finite(y) && !(op == api.Div && y == 0) && !(op == api.Sqrt && x < 0)
}

func TestP4AllEdges(t *testing.T) {
	for _, op := range roundOps {
		for _, x := range edges() {
			for _, y := range edges() {
				if defined(op, x, y) {
					wantRounded(t, op, x, y)
				}
			}
		}
	}
}

// TestP4AnyBits: numbers of all sizes, and, so that sums and quotients do not
// always lie far apart, others near them.
func TestP4AnyBits(t *testing.T) {
	r := rand.New(rand.NewSource(2))
	for range 4000 {
		x, far := math.Float64frombits(r.Uint64()), math.Float64frombits(r.Uint64())
		near := math.Copysign(math.Ldexp(x, r.Intn(140)-70), far) * (1 + r.Float64())
		for _, y := range []float64{far, near, 1 / x, math.Ldexp(1/x, r.Intn(60)-1074)} {
			for _, op := range roundOps {
				if defined(op, x, y) {
					wantRounded(t, op, x, y)
				}
			}
		}
	}
}

// TestP4ExactResults: a result that is a number is that number both ways.
func TestP4ExactResults(t *testing.T) {
	r := rand.New(rand.NewSource(3))
	for range 2000 {
		i, j := int64(r.Uint32()>>6), int64(r.Uint32()>>6)+1
		x, y := float64(i), float64(j)
		for _, c := range []struct {
			op         api.Op
			x, y, want float64
		}{
			{api.Add, x, y, float64(i + j)},
			{api.Sub, x, y, float64(i - j)},
			{api.Mul, x, -y, plain(-float64(i * j))},
			{api.Div, float64(i * j), y, x},
			{api.Sqrt, float64(i * i), y, x},
		} {
			for _, up := range []bool{false, true} {
				if z := spans.Round(c.op, c.x, c.y, up); !same(z, c.want) {
					t.Errorf("P4: Round(%d, %g, %g, %t) = %g, want %g", c.op, c.x, c.y, up, z, c.want)
				}
			}
		}
	}
}

// plain is x, with +0 for -0.
func plain(x float64) float64 { return x + 0 }

// TestP1AllBits: every call ends without a panic; no -0 comes out, and a NaN
// only where P3 and P4 say so.
func TestP1AllBits(t *testing.T) {
	for _, x := range anyBits() {
		wantSound(t, "Up", spans.Up(x), math.IsNaN(x))
		wantSound(t, "Down", spans.Down(x), math.IsNaN(x))
		for _, y := range anyBits() {
			for _, op := range anyOps() {
				takesNone := op != api.Sqrt && (op < api.Add || op > api.Div)
				other := y
				if op == api.Sqrt {
					other = 1
				}
				nans := takesNone || !defined(op, x, other)
				wantSound(t, "Round down", spans.Round(op, x, y, false), nans)
				wantSound(t, "Round up", spans.Round(op, x, y, true), nans)
			}
		}
	}
}

func wantSound(t *testing.T, call string, z float64, nans bool) {
	t.Helper()
	if math.IsNaN(z) != nans {
		t.Errorf("P1: %s: %x came out, a NaN is asked for: %t", call, z, nans)
	}
	if same(z, minusZero) {
		t.Errorf("P1: %s: -0 came out", call)
	}
}

// answers: of every call that has landed, at all pairs of xs, in their order.
func answers(xs []float64) map[[4]uint64]uint64 {
	all := map[[4]uint64]uint64{}
	for _, x := range xs {
		all[[4]uint64{0, math.Float64bits(x)}] = math.Float64bits(spans.Up(x))
		all[[4]uint64{1, math.Float64bits(x)}] = math.Float64bits(spans.Down(x))
		for _, y := range xs {
			for _, op := range roundOps {
				key := [4]uint64{2, math.Float64bits(x), math.Float64bits(y), uint64(op)}
				all[key] = math.Float64bits(spans.Round(op, x, y, false))
				key[0] = 3
				all[key] = math.Float64bits(spans.Round(op, x, y, true))
			}
		}
	}
	return all
}

// TestP2NothingKept: what was handed in before, and in what order, is not to be
// seen in an answer (P1, P2), and the numbers handed in stay as they were.
func TestP2NothingKept(t *testing.T) {
	xs := anyBits()
	var before []uint64
	for _, x := range xs {
		before = append(before, math.Float64bits(x))
	}
	first := answers(xs)
	for i, x := range xs {
		if math.Float64bits(x) != before[i] {
			t.Errorf("P2: %x was written into", before[i])
		}
	}
	var backwards []float64
	for i := range xs {
		backwards = append(backwards, xs[len(xs)-1-i])
	}
	for key, answer := range answers(backwards) {
		if first[key] != answer {
			t.Errorf("P2: call %x answered %x, then %x", key, first[key], answer)
		}
	}
}

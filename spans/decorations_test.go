package spans_test

import (
	"math"
	"slices"
	"testing"

	"spans/api"
	"spans/spans"
)

var (
	// sayings are the decorations that say something, in their order.
	sayings = []api.Deco{api.Trv, api.Def, api.Dac, api.Com}
	// notDecos are numbers that are none.
	notDecos = []api.Deco{math.MinInt, -2, -1, api.Com + 1, api.Com + 2, 99, math.MaxInt}

	ill = dec(none, api.Ill)
)

func dec(a api.Interval, d api.Deco) api.Decorated { return api.Decorated{Interval: a, Deco: d} }

// sameDecorated: to the bit.
func sameDecorated(a api.Decorated, b api.Decorated) bool {
	return sameEnds(a.Interval, b.Interval) && a.Deco == b.Deco
}

// ills are what Decorate makes Ill: an interval that is none, a number that is
// no decoration, Ill itself.
func ills() []api.Decorated {
	var all []api.Decorated
	for _, d := range append(notDecos, api.Ill) {
		all = append(all, dec(iv(1, 2), d), dec(whole, d), dec(none, d), dec(iv(nan, 1), d))
	}
	for _, a := range notIntervals() {
		for _, d := range sayings {
			all = append(all, dec(a, d))
		}
	}
	return append(all, api.Decorated{})
}

func wantDecorate(t *testing.T, a api.Interval, d api.Deco, want api.Decorated) {
	t.Helper()
	if got := spans.Decorate(a, d); !sameDecorated(got, want) {
		t.Errorf("P10: Decorate(%x, %d) = %x, want %x", a, d, got, want)
	}
}

func TestP10Bounded(t *testing.T) {
	for _, a := range []api.Interval{iv(1, 2), iv(-3, -3), iv(0, 0), iv(-1, 0), iv(-least, least), iv(most, most), iv(-most, most)} {
		for _, d := range sayings {
			wantDecorate(t, a, d, dec(a, d))
		}
	}
}

func TestP10NotBounded(t *testing.T) {
	for _, a := range []api.Interval{iv(1, inf), iv(-inf, 1), whole, iv(most, inf), iv(-inf, -most), iv(0, inf), iv(-inf, 0)} {
		wantDecorate(t, a, api.Com, dec(a, api.Dac))
		wantDecorate(t, a, api.Dac, dec(a, api.Dac))
		wantDecorate(t, a, api.Def, dec(a, api.Def))
		wantDecorate(t, a, api.Trv, dec(a, api.Trv))
	}
}

func TestP10Empty(t *testing.T) {
	for _, d := range sayings {
		wantDecorate(t, none, d, dec(none, api.Trv))
	}
	wantDecorate(t, none, api.Ill, ill)
}

func TestP10Ill(t *testing.T) {
	for _, a := range ills() {
		wantDecorate(t, a.Interval, a.Deco, ill)
	}
	for _, a := range append(intervals(ends()), none) {
		for _, d := range append(notDecos, api.Ill) {
			wantDecorate(t, a, d, ill)
		}
	}
}

// TestP10MinusZero: one that is handed in as an end is 0, and comes out as +0.
func TestP10MinusZero(t *testing.T) {
	for _, c := range []struct{ a, want api.Interval }{
		{iv(minusZero, minusZero), iv(0, 0)},
		{iv(0, minusZero), iv(0, 0)},
		{iv(minusZero, 1), iv(0, 1)},
		{iv(-1, minusZero), iv(-1, 0)},
	} {
		for _, d := range sayings {
			wantDecorate(t, c.a, d, dec(c.want, d))
		}
	}
	wantDecorate(t, iv(minusZero, inf), api.Com, dec(iv(0, inf), api.Dac))
	wantDecorate(t, iv(-inf, minusZero), api.Def, dec(iv(-inf, 0), api.Def))
}

func wantDo(t *testing.T, op api.Op, a api.Decorated, b api.Decorated, want api.Decorated) {
	t.Helper()
	if got := spans.Do(op, a, b); !sameDecorated(got, want) {
		t.Errorf("P11: Do(%d, %x, %x) = %x, want %x", op, a, b, got, want)
	}
}

// doesOne is what comes of a that is decorated Com.
type doesOne struct {
	op   api.Op
	a    api.Interval
	want api.Interval
	deco api.Deco
}

// doesTwo is what comes of a and b that are decorated Com.
type doesTwo struct {
	op   api.Op
	a, b api.Interval
	want api.Interval
	deco api.Deco
}

// wantDoesOne also holds that a lesser decoration of a comes through, and that
// the second one does not matter, whatever it is.
func wantDoesOne(t *testing.T, cases []doesOne) {
	t.Helper()
	seconds := append(ills(), dec(none, api.Trv), dec(iv(0, 0), api.Com), dec(iv(1, 2), api.Def), dec(whole, api.Com))
	for _, c := range cases {
		for _, b := range seconds {
			wantDo(t, c.op, dec(c.a, api.Ill), b, ill)
			for _, d := range sayings {
				wantDo(t, c.op, dec(c.a, d), b, dec(c.want, min(c.deco, d)))
			}
		}
	}
}

// wantDoesTwo also holds that a lesser decoration of a or b comes through.
func wantDoesTwo(t *testing.T, cases []doesTwo) {
	t.Helper()
	for _, c := range cases {
		for _, d := range sayings {
			wantDo(t, c.op, dec(c.a, d), dec(c.b, api.Ill), ill)
			wantDo(t, c.op, dec(c.a, api.Ill), dec(c.b, d), ill)
			for _, e := range sayings {
				wantDo(t, c.op, dec(c.a, d), dec(c.b, e), dec(c.want, min(c.deco, d, e)))
			}
		}
	}
}

func TestP11NegAbsAndSqr(t *testing.T) {
	wantDoesOne(t, []doesOne{
		{api.Neg, iv(1, 2), iv(-2, -1), api.Com},
		{api.Neg, iv(0, 0), iv(0, 0), api.Com},
		{api.Neg, iv(minusZero, 1), iv(-1, 0), api.Com},
		{api.Neg, iv(-most, most), iv(-most, most), api.Com},
		{api.Neg, iv(1, inf), iv(-inf, -1), api.Dac},
		{api.Neg, whole, whole, api.Dac},
		{api.Abs, iv(-3, 2), iv(0, 3), api.Com},
		{api.Abs, iv(-1, minusZero), iv(0, 1), api.Com},
		{api.Abs, iv(-inf, -1), iv(1, inf), api.Dac},
		{api.Sqr, iv(-3, 2), iv(0, 9), api.Com},
		{api.Sqr, iv(minusZero, minusZero), iv(0, 0), api.Com},
		{api.Sqr, iv(least, least), iv(0, least), api.Com},
		{api.Sqr, iv(2, inf), iv(4, inf), api.Dac},
		{api.Sqr, iv(0x1p600, 0x1p600), iv(most, inf), api.Dac},
		{api.Sqr, iv(-0x1p600, 1), iv(0, inf), api.Dac},
	})
}

func TestP11Roots(t *testing.T) {
	wantDoesOne(t, []doesOne{
		{api.Sqrt, iv(4, 9), iv(2, 3), api.Com},
		{api.Sqrt, iv(0, 4), iv(0, 2), api.Com},
		{api.Sqrt, iv(minusZero, 4), iv(0, 2), api.Com},
		{api.Sqrt, iv(0, 0), iv(0, 0), api.Com},
		{api.Sqrt, iv(minusZero, minusZero), iv(0, 0), api.Com},
		{api.Sqrt, iv(4, inf), iv(2, inf), api.Dac},
		{api.Sqrt, iv(0, inf), iv(0, inf), api.Dac},
		{api.Sqrt, iv(-4, 4), iv(0, 2), api.Trv},
		{api.Sqrt, iv(-least, 4), iv(0, 2), api.Trv},
		{api.Sqrt, iv(-1, 0), iv(0, 0), api.Trv},
		{api.Sqrt, iv(-1, minusZero), iv(0, 0), api.Trv},
		{api.Sqrt, iv(-2, -1), none, api.Trv},
		{api.Sqrt, iv(-least, -least), none, api.Trv},
		{api.Sqrt, iv(-inf, 4), iv(0, 2), api.Trv},
		{api.Sqrt, iv(-inf, -1), none, api.Trv},
		{api.Sqrt, whole, iv(0, inf), api.Trv},
	})
}

func TestP11Recip(t *testing.T) {
	wantDoesOne(t, []doesOne{
		{api.Recip, iv(1, 2), iv(0.5, 1), api.Com},
		{api.Recip, iv(-4, -2), iv(-0.5, -0.25), api.Com},
		{api.Recip, iv(2, inf), iv(0, 0.5), api.Dac},
		{api.Recip, iv(-inf, -2), iv(-0.5, 0), api.Dac},
		{api.Recip, iv(least, 1), iv(1, inf), api.Dac},
		{api.Recip, iv(-1, -least), iv(-inf, -1), api.Dac},
		{api.Recip, iv(-1, 1), whole, api.Trv},
		{api.Recip, iv(0, 2), iv(0.5, inf), api.Trv},
		{api.Recip, iv(minusZero, 2), iv(0.5, inf), api.Trv},
		{api.Recip, iv(-2, 0), iv(-inf, -0.5), api.Trv},
		{api.Recip, iv(-2, minusZero), iv(-inf, -0.5), api.Trv},
		{api.Recip, iv(0, 0), none, api.Trv},
		{api.Recip, iv(minusZero, minusZero), none, api.Trv},
		{api.Recip, iv(0, inf), iv(0, inf), api.Trv},
		{api.Recip, whole, whole, api.Trv},
	})
}

func TestP12Floor(t *testing.T) {
	wantDoesOne(t, []doesOne{
		{api.Floor, iv(1.25, 1.5), iv(1, 1), api.Com},
		{api.Floor, iv(1.5, 1.5), iv(1, 1), api.Com},
		{api.Floor, iv(least, 1-0x1p-53), iv(0, 0), api.Com},
		{api.Floor, iv(-least, -least), iv(-1, -1), api.Com},
		{api.Floor, iv(-0.5, -0.25), iv(-1, -1), api.Com},
		{api.Floor, iv(0x1p52-0.5, 0x1p52-0.5), iv(0x1p52-1, 0x1p52-1), api.Com},
		{api.Floor, iv(1, 1.5), iv(1, 1), api.Dac},
		{api.Floor, iv(1, 1), iv(1, 1), api.Dac},
		{api.Floor, iv(1, 2-0x1p-52), iv(1, 1), api.Dac},
		{api.Floor, iv(0, 0), iv(0, 0), api.Dac},
		{api.Floor, iv(minusZero, minusZero), iv(0, 0), api.Dac},
		{api.Floor, iv(minusZero, 0.5), iv(0, 0), api.Dac},
		{api.Floor, iv(-1, -least), iv(-1, -1), api.Dac},
		{api.Floor, iv(most, most), iv(most, most), api.Dac},
		{api.Floor, iv(1.5, 2.5), iv(1, 2), api.Def},
		{api.Floor, iv(1.5, 2), iv(1, 2), api.Def},
		{api.Floor, iv(2-0x1p-52, 2), iv(1, 2), api.Def},
		{api.Floor, iv(1, 2), iv(1, 2), api.Def},
		{api.Floor, iv(-least, minusZero), iv(-1, 0), api.Def},
		{api.Floor, iv(-most, most), iv(-most, most), api.Def},
		{api.Floor, iv(1, inf), iv(1, inf), api.Def},
		{api.Floor, iv(most, inf), iv(most, inf), api.Def},
		{api.Floor, iv(-inf, 1.5), iv(-inf, 1), api.Def},
		{api.Floor, whole, whole, api.Def},
	})
}

func TestP11SumsAndProducts(t *testing.T) {
	wantDoesTwo(t, []doesTwo{
		{api.Add, iv(1, 2), iv(3, 4), iv(4, 6), api.Com},
		{api.Add, iv(minusZero, 1), iv(minusZero, minusZero), iv(0, 1), api.Com},
		{api.Add, iv(1, 2), iv(3, inf), iv(4, inf), api.Dac},
		{api.Add, iv(-inf, 2), iv(3, 4), iv(-inf, 6), api.Dac},
		{api.Add, iv(most, most), iv(1, 2), iv(most, inf), api.Dac},
		{api.Add, iv(-most, most), iv(-least, least), whole, api.Dac},
		{api.Sub, iv(1, 2), iv(3, 4), iv(-3, -1), api.Com},
		{api.Sub, iv(0, 1), iv(minusZero, minusZero), iv(0, 1), api.Com},
		{api.Sub, iv(1, 2), iv(4, inf), iv(-inf, -2), api.Dac},
		{api.Sub, iv(-most, 1), iv(least, least), iv(-inf, 1), api.Dac},
		{api.Mul, iv(-1, 2), iv(-3, 4), iv(-6, 8), api.Com},
		{api.Mul, iv(minusZero, minusZero), iv(-3, -1), iv(0, 0), api.Com},
		{api.Mul, iv(1, 2), iv(-inf, -1), iv(-inf, -1), api.Dac},
		{api.Mul, iv(0, 0), whole, iv(0, 0), api.Dac},
		{api.Mul, iv(2, inf), iv(0, 0), iv(0, 0), api.Dac},
		{api.Mul, iv(0x1p1000, 0x1p1000), iv(0x1p1000, 0x1p1000), iv(most, inf), api.Dac},
	})
}

func TestP11MinAndMax(t *testing.T) {
	wantDoesTwo(t, []doesTwo{
		{api.Min, iv(1, 5), iv(2, 3), iv(1, 3), api.Com},
		{api.Min, iv(1, 1), iv(minusZero, minusZero), iv(0, 0), api.Com},
		{api.Min, iv(1, 2), iv(3, inf), iv(1, 2), api.Dac},
		{api.Min, iv(-inf, 2), iv(3, 4), iv(-inf, 2), api.Dac},
		{api.Max, iv(1, 5), iv(2, 3), iv(2, 5), api.Com},
		{api.Max, iv(-1, -1), iv(-1, minusZero), iv(-1, 0), api.Com},
		{api.Max, iv(-inf, 1), iv(2, 3), iv(2, 3), api.Dac},
		{api.Max, iv(1, inf), iv(2, 3), iv(2, inf), api.Dac},
	})
}

func TestP11Quotients(t *testing.T) {
	wantDoesTwo(t, []doesTwo{
		{api.Div, iv(4, 8), iv(2, 4), iv(1, 4), api.Com},
		{api.Div, iv(-1, 1), iv(-2, -1), iv(-1, 1), api.Com},
		{api.Div, iv(minusZero, minusZero), iv(-2, -1), iv(0, 0), api.Com},
		{api.Div, iv(1, 2), iv(4, inf), iv(0, 0.5), api.Dac},
		{api.Div, iv(0, 0), iv(1, inf), iv(0, 0), api.Dac},
		{api.Div, iv(-inf, 1), iv(2, 4), iv(-inf, 0.5), api.Dac},
		{api.Div, iv(most, most), iv(0.5, 0.5), iv(most, inf), api.Dac},
		{api.Div, iv(0, 1), iv(least, 1), iv(0, inf), api.Dac},
		{api.Div, iv(1, 2), iv(-1, 1), whole, api.Trv},
		{api.Div, iv(1, 2), iv(0, 2), iv(0.5, inf), api.Trv},
		{api.Div, iv(1, 2), iv(minusZero, 2), iv(0.5, inf), api.Trv},
		{api.Div, iv(1, 2), iv(-1, 0), iv(-inf, -1), api.Trv},
		{api.Div, iv(1, 2), iv(-1, minusZero), iv(-inf, -1), api.Trv},
		{api.Div, iv(1, 2), iv(0, 0), none, api.Trv},
		{api.Div, iv(1, 2), iv(minusZero, minusZero), none, api.Trv},
		{api.Div, iv(0, 0), iv(0, 0), none, api.Trv},
		{api.Div, iv(0, 0), iv(-1, 1), iv(0, 0), api.Trv},
		{api.Div, iv(0, 0), iv(0, inf), iv(0, 0), api.Trv},
		{api.Div, whole, whole, whole, api.Trv},
	})
}

func TestP11Empty(t *testing.T) {
	for op := api.Neg; op < api.Add; op++ {
		wantDoesOne(t, []doesOne{{op, none, none, api.Trv}})
	}
	for op := api.Add; op <= api.Max; op++ {
		for _, a := range []api.Interval{iv(1, 2), iv(0, 0), whole, none} {
			wantDoesTwo(t, []doesTwo{{op, a, none, none, api.Trv}, {op, none, a, none, api.Trv}})
		}
	}
}

// TestP11Ill: what Decorate makes Ill is so wherever the operation takes it,
// even beside the empty one.
func TestP11Ill(t *testing.T) {
	others := append(ills(), dec(iv(1, 2), api.Com), dec(iv(0, 0), api.Trv), dec(whole, api.Dac), dec(none, api.Trv))
	for _, bad := range ills() {
		for _, other := range others {
			for op := api.Neg; op <= api.Max; op++ {
				wantDo(t, op, bad, other, ill)
				if op >= api.Add {
					wantDo(t, op, other, bad, ill)
				}
			}
		}
	}
}

func TestP11OtherOperations(t *testing.T) {
	all := append(ills(), dec(iv(1, 2), api.Com), dec(iv(1, 2), api.Trv), dec(iv(0, 0), api.Com), dec(whole, api.Dac), dec(none, api.Trv))
	for _, op := range anyOps() {
		if op >= api.Neg && op <= api.Max {
			continue
		}
		for _, a := range all {
			for _, b := range all {
				wantDo(t, op, a, b, ill)
			}
		}
	}
}

// floorEnds have all whole numbers that lie between them, and begin with one:
// so Floor has just one value at each place but the first and the last.
func floorEnds() []float64 {
	return []float64{-inf, -2, -1.5, -1, -0x1p-600, -least, 0, least, 0.5, 1 - 0x1p-53, 1, 1.25, 2, inf}
}

// jumps tells whether Floor jumps at a number of the place p, as seen from the
// places that are within. (Above each number it goes on as it is there.)
func jumps(p int, within placed, rising []float64) bool {
	if isStretch := p%2 == 1; isStretch {
		return p == 1 || p == 2*len(rising)-3
	}
	return within.has(p-1) && math.Floor(rising[p/2-1]) != math.Floor(rising[p/2])
}

// isDefinedOn: P6's own words, place by place.
func isDefinedOn(op api.Op, a placed, b placed, rising []float64) bool {
	zero := 2 * slices.Index(rising, 0)
	switch op {
	case api.Sqrt:
		return !hasOne(a, 0, zero)
	case api.Recip:
		return !a.has(zero)
	case api.Div:
		return !b.has(zero)
	}
	return true
}

// isContinuousOn: seen from the numbers that are within.
func isContinuousOn(op api.Op, a placed, within placed, rising []float64) bool {
	for p := range 2*len(rising) - 2 {
		if op == api.Floor && a.has(p) && jumps(p, within, rising) {
			return false
		}
	}
	return true
}

// localAs is P11's and P12's own words, place by place. Of an operation of one
// b is the same as a.
func localAs(op api.Op, a placed, b placed, rising []float64) api.Deco {
	last := 2*len(rising) - 3
	result := spans.Apply(op, a.Interval, b.Interval)
	isBounded := finite(result.Lo) && finite(result.Hi)
	for _, c := range []placed{a, b} {
		if !hasOne(c, 1, last+1) {
			return api.Trv
		}
		isBounded = isBounded && !c.has(1) && !c.has(last)
	}
	switch {
	case !isDefinedOn(op, a, b, rising):
		return api.Trv
	case isBounded && isContinuousOn(op, a, placed{whole, 1, last}, rising):
		return api.Com
	case isContinuousOn(op, a, a, rising):
		return api.Dac
	}
	return api.Def
}

func TestP11OfOnePlaceByPlace(t *testing.T) {
	rising := floorEnds()
	all, _ := placedIntervals(rising)
	for _, a := range all {
		var cases []doesOne
		for op := api.Neg; op < api.Add; op++ {
			cases = append(cases, doesOne{op, a.Interval, spans.Apply(op, a.Interval, none), localAs(op, a, a, rising)})
		}
		wantDoesOne(t, cases)
	}
}

func TestP11OfTwoPlaceByPlace(t *testing.T) {
	for _, rising := range [][]float64{floorEnds(), risingEnds()} {
		all, _ := placedIntervals(rising)
		for _, a := range all {
			for _, b := range all {
				var cases []doesTwo
				for op := api.Add; op <= api.Max; op++ {
					cases = append(cases, doesTwo{op, a.Interval, b.Interval, spans.Apply(op, a.Interval, b.Interval), localAs(op, a, b, rising)})
				}
				wantDoesTwo(t, cases)
			}
		}
	}
}

// wantDecorated: what comes out is an interval in plain numbers, and says no
// more of it than Decorate does.
func wantDecorated(t *testing.T, call string, a api.Decorated) {
	t.Helper()
	wantInterval(t, call, a.Interval)
	wantDecorate(t, a.Interval, a.Deco, a)
}

// TestP1DecorationsOfAllBits: at any ends, decorations and operations the calls
// end without a panic, and an interval comes out, without a NaN or a -0.
func TestP1DecorationsOfAllBits(t *testing.T) {
	decos := append(append(notDecos, api.Ill), sayings...)
	others := append(notIntervals(), none, whole, iv(minusZero, minusZero), iv(-1, minusZero), iv(minusZero, 1), iv(-1, 1), iv(1, 2), iv(-inf, -1))
	i := 0
	for _, lo := range anyBits() {
		for _, hi := range anyBits() {
			a := dec(iv(lo, hi), decos[i%len(decos)])
			b := dec(others[i/len(decos)%len(others)], sayings[i%len(sayings)])
			wantDecorated(t, "Decorate", spans.Decorate(a.Interval, a.Deco))
			for _, op := range anyOps() {
				wantDecorated(t, "Do", spans.Do(op, a, b))
				wantDecorated(t, "Do", spans.Do(op, b, dec(a.Interval, api.Com)))
			}
			i++
		}
	}
}

// TestP2DecorationsNothingKept: an answer does not hang on what was asked
// before, and what is handed in stays as it was.
func TestP2DecorationsNothingKept(t *testing.T) {
	all := append(intervals(ends()), notIntervals()...)
	for i := range all {
		a, b := dec(all[i], api.Com), dec(all[len(all)-1-i], api.Def)
		for _, op := range anyOps() {
			made, done := spans.Decorate(a.Interval, a.Deco), spans.Do(op, a, b)
			spans.Decorate(b.Interval, b.Deco)
			spans.Do(op, b, a)
			wantDecorate(t, a.Interval, a.Deco, made)
			wantDo(t, op, a, b, done)
		}
		if !sameDecorated(a, dec(all[i], api.Com)) || !sameDecorated(b, dec(all[len(all)-1-i], api.Def)) {
			t.Errorf("P2: %x or %x was written into", all[i], all[len(all)-1-i])
		}
	}
}

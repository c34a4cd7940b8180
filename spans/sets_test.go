package spans_test

import (
	"math"
	"slices"
	"testing"

	"spans/api"
	"spans/spans"
)

// relations are all that there are, in their order.
var relations = []api.Relation{api.Equal, api.Subset, api.Interior, api.Disjoint, api.Less, api.Precedes}

// notRelations are numbers that are none.
var notRelations = []api.Relation{math.MinInt, -2, -1, api.Precedes + 1, api.Precedes + 2, 99, math.MaxInt}

func wantMeet(t *testing.T, a api.Interval, b api.Interval, want api.Interval) {
	t.Helper()
	if got := spans.Meet(a, b); !sameEnds(got, want) {
		t.Errorf("P8: Meet(%x, %x) = %x, want %x", a, b, got, want)
	}
}

func wantHull(t *testing.T, a api.Interval, b api.Interval, want api.Interval) {
	t.Helper()
	if got := spans.Hull(a, b); !sameEnds(got, want) {
		t.Errorf("P8: Hull(%x, %x) = %x, want %x", a, b, got, want)
	}
}

// wantRelations: these hold of a and b, and no others.
func wantRelations(t *testing.T, a api.Interval, b api.Interval, want []api.Relation) {
	t.Helper()
	for _, r := range append(notRelations, relations...) {
		if got := spans.Is(r, a, b); got != slices.Contains(want, r) {
			t.Errorf("P9: Is(%d, %x, %x) = %t", r, a, b, got)
		}
	}
}

func TestP8MeetAndHull(t *testing.T) {
	for _, c := range []struct{ a, b, meet, hull api.Interval }{
		{iv(1, 3), iv(2, 4), iv(2, 3), iv(1, 4)},
		{iv(1, 4), iv(2, 3), iv(2, 3), iv(1, 4)},
		{iv(-3, 5), iv(-3, 5), iv(-3, 5), iv(-3, 5)},
		{iv(1, 2), iv(3, 4), none, iv(1, 4)},
		{iv(1, 2), iv(2+0x1p-51, 4), none, iv(1, 4)},
		{iv(1, 2), iv(2, 4), iv(2, 2), iv(1, 4)},
		{iv(1, 2), iv(1, 4), iv(1, 2), iv(1, 4)},
		{iv(1, 4), iv(2, 4), iv(2, 4), iv(1, 4)},
		{iv(2, 2), iv(2, 2), iv(2, 2), iv(2, 2)},
		{iv(2, 2), iv(3, 3), none, iv(2, 3)},
		{iv(2, 2), iv(1, 3), iv(2, 2), iv(1, 3)},
		{iv(-inf, 1), iv(0, inf), iv(0, 1), whole},
		{iv(-inf, 1), iv(1, inf), iv(1, 1), whole},
		{iv(-inf, 0), iv(1, inf), none, whole},
		{iv(-inf, -most), iv(most, inf), none, whole},
		{iv(-inf, 1), iv(-inf, 2), iv(-inf, 1), iv(-inf, 2)},
		{iv(1, inf), iv(2, inf), iv(2, inf), iv(1, inf)},
		{whole, iv(1, 2), iv(1, 2), whole},
		{whole, whole, whole, whole},
		{iv(-1, 0), iv(0, 1), iv(0, 0), iv(-1, 1)},
		{iv(-1, -least), iv(least, 1), none, iv(-1, 1)},
		{iv(0, 0), iv(3, 4), none, iv(0, 4)},
	} {
		wantMeet(t, c.a, c.b, c.meet)
		wantMeet(t, c.b, c.a, c.meet)
		wantHull(t, c.a, c.b, c.hull)
		wantHull(t, c.b, c.a, c.hull)
	}
}

// TestP8MinusZero: one that is handed in as an end is 0, and comes out as +0.
func TestP8MinusZero(t *testing.T) {
	wantMeet(t, iv(minusZero, 1), iv(-1, minusZero), iv(0, 0))
	wantMeet(t, iv(minusZero, minusZero), iv(minusZero, minusZero), iv(0, 0))
	wantMeet(t, iv(minusZero, 2), iv(minusZero, 1), iv(0, 1))
	wantMeet(t, iv(-2, minusZero), iv(-1, 0), iv(-1, 0))
	wantMeet(t, iv(0, minusZero), whole, iv(0, 0))
	wantHull(t, iv(minusZero, 1), iv(0, 2), iv(0, 2))
	wantHull(t, iv(-1, minusZero), iv(-2, minusZero), iv(-2, 0))
	wantHull(t, iv(minusZero, minusZero), iv(0, 0), iv(0, 0))
	wantHull(t, iv(minusZero, minusZero), none, iv(0, 0))
	wantHull(t, none, iv(0, minusZero), iv(0, 0))
}

// TestP8Empty: the empty one, and what is none, has nothing together with
// another and adds nothing to it.
func TestP8Empty(t *testing.T) {
	for _, bad := range append(notIntervals(), none) {
		for _, good := range append(intervals(ends()), none) {
			wantMeet(t, bad, good, none)
			wantMeet(t, good, bad, none)
			wantHull(t, bad, good, good)
			wantHull(t, good, bad, good)
		}
		for _, other := range notIntervals() {
			wantMeet(t, bad, other, none)
			wantHull(t, bad, other, none)
		}
	}
}

func TestP9Is(t *testing.T) {
	const equal, subset, interior, disjoint, less, precedes = api.Equal, api.Subset, api.Interior, api.Disjoint, api.Less, api.Precedes
	type these = []api.Relation
	for _, c := range []struct {
		a, b api.Interval
		want these
	}{
		{iv(1, 2), iv(1, 2), these{equal, subset, less}},
		{iv(1, 2), iv(0, 3), these{subset, interior}},
		{iv(0, 3), iv(1, 2), nil},
		{iv(1, 2), iv(0, 2), these{subset}},
		{iv(1, 2), iv(1, 3), these{subset, less}},
		{iv(0, 2), iv(1, 2), these{less}},
		{iv(1, 3), iv(1, 2), nil},
		{iv(1, 3), iv(2, 3), these{less}},
		{iv(1, 3), iv(2, 4), these{less}},
		{iv(2, 4), iv(1, 3), nil},
		{iv(1, 2), iv(2, 4), these{less, precedes}},
		{iv(2, 4), iv(1, 2), nil},
		{iv(1, 2), iv(3, 4), these{disjoint, less, precedes}},
		{iv(3, 4), iv(1, 2), these{disjoint}},
		{iv(1, 2), iv(2+0x1p-51, 4), these{disjoint, less, precedes}},
		{iv(1, 2), iv(1-0x1p-53, 2+0x1p-51), these{subset, interior}},
		{iv(1, 1), iv(1, 1), these{equal, subset, less, precedes}},
		{iv(1, 1), iv(2, 2), these{disjoint, less, precedes}},
		{iv(1, 1), iv(1, 2), these{subset, less, precedes}},
		{iv(1, 2), iv(2, 2), these{less, precedes}},
		{iv(2, 2), iv(1, 2), these{subset}},
		{iv(2, 2), iv(1, 3), these{subset, interior}},
		{iv(0, 0), iv(-least, least), these{subset, interior}},
		{iv(-1, 0), iv(0, 1), these{less, precedes}},
		{iv(-1, -least), iv(0, 1), these{disjoint, less, precedes}},
		{iv(minusZero, 1), iv(0, 1), these{equal, subset, less}},
		{iv(0, 0), iv(minusZero, minusZero), these{equal, subset, less, precedes}},
		{iv(minusZero, 1), iv(-1, 0), nil},
		{iv(-1, 0), iv(minusZero, 1), these{less, precedes}},
		{iv(0, 1), iv(minusZero, 2), these{subset, less}},
		{whole, whole, these{equal, subset, interior, less}},
		{iv(1, 2), whole, these{subset, interior}},
		{iv(-most, most), whole, these{subset, interior}},
		{whole, iv(1, 2), nil},
		{whole, iv(-most, most), nil},
		{iv(-inf, 1), iv(-inf, 1), these{equal, subset, less}},
		{iv(-inf, 1), iv(-inf, 2), these{subset, interior, less}},
		{iv(-inf, 2), iv(-inf, 1), nil},
		{iv(-inf, 1), whole, these{subset, interior, less}},
		{iv(-inf, 1), iv(1, inf), these{less, precedes}},
		{iv(1, inf), iv(-inf, 1), nil},
		{iv(-inf, 0), iv(1, inf), these{disjoint, less, precedes}},
		{iv(1, inf), iv(-inf, 0), these{disjoint}},
		{iv(1, inf), iv(1, inf), these{equal, subset, less}},
		{iv(1, inf), iv(0, inf), these{subset, interior}},
		{iv(1, inf), iv(2, inf), these{less}},
		{iv(1, inf), whole, these{subset, interior}},
		{whole, iv(1, inf), these{less}},
		{iv(1, inf), iv(0, 3), nil},
		{iv(1, 2), iv(0, inf), these{subset, interior}},
		{iv(1, 2), iv(1, inf), these{subset, less}},
		{iv(1, 2), iv(-inf, 2), these{subset}},
	} {
		wantRelations(t, c.a, c.b, c.want)
	}
}

// TestP9Empty: the empty one, and what is none, on either side and on both.
func TestP9Empty(t *testing.T) {
	for _, bad := range append(notIntervals(), none) {
		for _, good := range append(intervals(ends()), iv(minusZero, minusZero)) {
			wantRelations(t, bad, good, []api.Relation{api.Subset, api.Interior, api.Disjoint, api.Precedes})
			wantRelations(t, good, bad, []api.Relation{api.Disjoint, api.Precedes})
		}
		for _, other := range append(notIntervals(), none) {
			wantRelations(t, bad, other, relations)
		}
	}
}

// placed is an interval and the places of the line that it has: each finite
// end is an even one, each stretch of reals between two of them, or beyond the
// last, an odd one. So what P8 and P9 say of all numbers can be asked place by
// place, with no end being compared.
type placed struct {
	api.Interval
	from, to int
}

func (a placed) has(p int) bool { return a.from <= p && p <= a.to }

// placedIntervals: all that have their ends among these, which rise from
// -infinity to +infinity; and the number of places.
func placedIntervals(rising []float64) ([]placed, int) {
	last := len(rising) - 1
	all := []placed{{none, 1, 0}}
	for i := range last {
		for j := max(i, 1); j <= last; j++ {
			all = append(all, placed{iv(rising[i], rising[j]), max(2*i, 1), min(2*j, 2*last-1)})
		}
	}
	return all, 2 * last
}

// isAs is P9's own words, place by place.
func isAs(r api.Relation, a placed, b placed, places int) bool {
	allOfA, allOfB := true, true
	for p := range places {
		allOfA = allOfA && (!a.has(p) || holdsAt(r, p, b, places))
		allOfB = allOfB && (!b.has(p) || holdsBack(r, p, a))
	}
	return allOfA && allOfB
}

// holdsAt: what r asks of the numbers of a at p.
func holdsAt(r api.Relation, p int, b placed, places int) bool {
	switch r {
	case api.Equal, api.Subset:
		return b.has(p)
	case api.Interior:
		isStretch := p%2 == 1
		return b.has(p) && (isStretch || b.has(p-1) && b.has(p+1))
	case api.Disjoint:
		return !b.has(p)
	case api.Less:
		return hasOne(b, p, places)
	}
	for q := range places {
		// Of two numbers of one stretch, either may be the greater.
		if b.has(q) && (p > q || p == q && p%2 == 1) {
			return false
		}
	}
	return true
}

// holdsBack: what r asks of the numbers of b at p.
func holdsBack(r api.Relation, p int, a placed) bool {
	switch r {
	case api.Equal:
		return a.has(p)
	case api.Less:
		return hasOne(a, 0, p+1)
	}
	return true
}

func hasOne(a placed, from int, to int) bool {
	for p := from; p < to; p++ {
		if a.has(p) {
			return true
		}
	}
	return false
}

func risingEnds() []float64 {
	return []float64{-inf, -most, -justUnder, -1, -least, 0, least, 1, 1 + 0x1p-52, most, inf}
}

// TestP8PlaceByPlace: Meet has just the places that are in both, Hull is the
// one of the fewest places among those that have all of both.
func TestP8PlaceByPlace(t *testing.T) {
	all, places := placedIntervals(risingEnds())
	for _, a := range all {
		for _, b := range all {
			meet, smallest := none, placed{whole, 0, places}
			for _, c := range all {
				isMeet, hasBoth := true, true
				for p := range places {
					isMeet = isMeet && c.has(p) == (a.has(p) && b.has(p))
					hasBoth = hasBoth && (c.has(p) || !a.has(p) && !b.has(p))
				}
				if isMeet {
					meet = c.Interval
				}
				if hasBoth && c.to-c.from < smallest.to-smallest.from {
					smallest = c
				}
			}
			wantMeet(t, a.Interval, b.Interval, meet)
			wantHull(t, a.Interval, b.Interval, smallest.Interval)
		}
	}
}

func TestP9PlaceByPlace(t *testing.T) {
	all, places := placedIntervals(risingEnds())
	for _, a := range all {
		for _, b := range all {
			var want []api.Relation
			for _, r := range relations {
				if isAs(r, a, b, places) {
					want = append(want, r)
				}
			}
			wantRelations(t, a.Interval, b.Interval, want)
		}
	}
}

// TestP1SetsOfAllBits: at any ends and relations the calls end without a panic,
// and an interval comes out, without a NaN or a -0.
func TestP1SetsOfAllBits(t *testing.T) {
	others := append(notIntervals(), none, whole, iv(minusZero, minusZero), iv(-1, minusZero), iv(minusZero, 1), iv(-inf, minusZero), iv(minusZero, inf))
	for _, lo := range anyBits() {
		for _, hi := range anyBits() {
			a := iv(lo, hi)
			for _, b := range others {
				wantInterval(t, "Meet", spans.Meet(a, b))
				wantInterval(t, "Meet", spans.Meet(b, a))
				wantInterval(t, "Hull", spans.Hull(a, b))
				wantInterval(t, "Hull", spans.Hull(b, a))
			}
			for _, r := range notRelations {
				if spans.Is(r, a, a) {
					t.Errorf("P9: Is(%d, %x, %x): no relation holds", r, a, a)
				}
			}
			if ok := spans.Is(api.Equal, a, a) && spans.Is(api.Subset, a, a) && spans.Is(api.Less, a, a); !ok {
				t.Errorf("P9: %x is not Equal to, a Subset of or Less than itself", a)
			}
		}
	}
}

// TestP2SetsNothingKept: an answer does not hang on what was asked before, and
// the intervals handed in stay as they were.
func TestP2SetsNothingKept(t *testing.T) {
	all := append(intervals(ends()), notIntervals()...)
	for i := range all {
		a, b := all[i], all[len(all)-1-i]
		meet, hull := spans.Meet(a, b), spans.Hull(a, b)
		var held []api.Relation
		for _, r := range relations {
			if spans.Is(r, a, b) {
				held = append(held, r)
			}
			spans.Is(r, b, a)
		}
		spans.Meet(b, a)
		spans.Hull(b, a)
		wantMeet(t, a, b, meet)
		wantHull(t, a, b, hull)
		wantRelations(t, a, b, held)
		if !sameEnds(a, all[i]) || !sameEnds(b, all[len(all)-1-i]) {
			t.Errorf("P2: %x or %x was written into", all[i], all[len(all)-1-i])
		}
	}
}

package spans_test

import (
	"math"
	"math/rand"
	"slices"
	"testing"

	"spans/api"
	"spans/spans"
)

func con(x float64) api.Step { return api.Step{Op: api.Const, Value: x} }

func vari(i int) api.Step { return api.Step{Op: api.Var, Index: i} }

func op(o api.Op) api.Step { return api.Step{Op: o} }

// program is the steps of its parts, one after the other.
func program(parts ...[]api.Step) []api.Step { return slices.Concat(parts...) }

func times(n int, s ...api.Step) []api.Step { return slices.Repeat(s, n) }

// com is a box of intervals that are decorated Com.
func com(all ...api.Interval) []api.Decorated {
	var box []api.Decorated
	for _, a := range all {
		box = append(box, dec(a, api.Com))
	}
	return box
}

func wantEval(t *testing.T, steps []api.Step, box []api.Decorated, want api.Decorated) {
	t.Helper()
	got, errno := spans.Eval(steps, box)
	if errno != api.OK || !sameDecorated(got, want) {
		t.Errorf("P14: Eval(%v, %x) = %x, %d, want %x", steps, box, got, errno, want)
	}
}

// wantError also holds that the other result is the zero one, to the bit.
func wantError(t *testing.T, steps []api.Step, box []api.Decorated, want api.Errno) {
	t.Helper()
	got, errno := spans.Eval(steps, box)
	if errno != want || !sameDecorated(got, api.Decorated{}) {
		t.Errorf("P13: Eval(%v, %x) = %x, %d, want the error %d", steps, box, got, errno, want)
	}
}

// evaluated is a program, a box, and what comes of them.
type evaluated struct {
	steps []api.Step
	box   []api.Decorated
	want  api.Decorated
}

func TestP14Programs(t *testing.T) {
	four := com(iv(1, 2), iv(-3, 4), iv(0, 0.5), iv(7, 7))
	for _, c := range []evaluated{
		{[]api.Step{con(2)}, nil, dec(iv(2, 2), api.Com)},
		{[]api.Step{con(2)}, four, dec(iv(2, 2), api.Com)},
		{[]api.Step{con(1), con(3), op(api.Div), op(api.Neg)}, []api.Decorated{}, dec(iv(-spans.Up(1.0/3), -1.0/3), api.Com)},
		{[]api.Step{vari(0), op(api.Sqr), vari(0), op(api.Sub)}, com(iv(1, 2)), dec(iv(-1, 3), api.Com)},
		{[]api.Step{vari(0), op(api.Abs), op(api.Sqrt), op(api.Recip)}, com(iv(-16, -4)), dec(iv(0.25, 0.5), api.Com)},
		{[]api.Step{vari(1), vari(0), op(api.Div)}, com(iv(1, 2), iv(4, 8)), dec(iv(2, 8), api.Com)},
		{[]api.Step{vari(0), vari(1), op(api.Min), vari(2), op(api.Max)}, com(iv(1, 9), iv(3, 4), iv(2, 3)), dec(iv(2, 4), api.Com)},
		{[]api.Step{vari(0), vari(1), op(api.Mul), vari(2), vari(3), op(api.Add), op(api.Sub)}, four, dec(iv(-13.5, 1), api.Com)},
		{[]api.Step{con(1.5), op(api.Floor)}, nil, dec(iv(1, 1), api.Com)},
		{[]api.Step{con(1), op(api.Floor)}, nil, dec(iv(1, 1), api.Dac)},
		{[]api.Step{con(0), op(api.Recip)}, nil, dec(none, api.Trv)},
		{[]api.Step{con(-1), op(api.Sqrt), con(1), op(api.Add)}, nil, dec(none, api.Trv)},
		{[]api.Step{con(0x1p1000), op(api.Sqr)}, nil, dec(iv(most, inf), api.Dac)},
		{[]api.Step{con(1), vari(0), op(api.Div)}, com(iv(-3, 4)), dec(whole, api.Trv)},
		{[]api.Step{vari(0), op(api.Floor), op(api.Neg)}, com(iv(1.5, 2.5)), dec(iv(-2, -1), api.Def)},
	} {
		wantEval(t, c.steps, c.box, c.want)
	}
}

// TestP14EarlierIsFirst: by operations of two that tell their first from their
// second.
func TestP14EarlierIsFirst(t *testing.T) {
	for _, c := range []evaluated{
		{[]api.Step{con(5), con(3), op(api.Sub)}, nil, dec(iv(2, 2), api.Com)},
		{[]api.Step{con(3), con(5), op(api.Sub)}, nil, dec(iv(-2, -2), api.Com)},
		{[]api.Step{con(8), con(2), op(api.Div)}, nil, dec(iv(4, 4), api.Com)},
		{[]api.Step{con(2), con(8), op(api.Div)}, nil, dec(iv(0.25, 0.25), api.Com)},
		{[]api.Step{con(0), con(2), op(api.Div)}, nil, dec(iv(0, 0), api.Com)},
		{[]api.Step{con(2), con(0), op(api.Div)}, nil, dec(none, api.Trv)},
		{[]api.Step{con(1), con(2), con(4), op(api.Sub), op(api.Sub)}, nil, dec(iv(3, 3), api.Com)},
		{[]api.Step{con(1), con(2), op(api.Sub), con(4), op(api.Sub)}, nil, dec(iv(-5, -5), api.Com)},
		{[]api.Step{con(1), con(2), con(4), op(api.Neg), op(api.Sub), op(api.Sub)}, nil, dec(iv(-5, -5), api.Com)},
		{[]api.Step{vari(1), vari(0), op(api.Sub)}, com(iv(1, 2), iv(5, 7)), dec(iv(3, 6), api.Com)},
		{[]api.Step{vari(0), vari(1), op(api.Sub)}, com(iv(1, 2), iv(5, 7)), dec(iv(-6, -3), api.Com)},
	} {
		wantEval(t, c.steps, c.box, c.want)
	}
}

// decorations are intervals with each decoration that says something, as
// Decorate leaves them.
func decorations() []api.Decorated {
	var all []api.Decorated
	for _, a := range []api.Interval{iv(1, 2), iv(-3, 4), iv(0, 0), iv(1.25, 1.5), iv(-2, -1), iv(4, inf), iv(-inf, 0), whole, none} {
		for _, d := range sayings {
			if made := spans.Decorate(a, d); made.Deco == d {
				all = append(all, made)
			}
		}
	}
	return all
}

// TestP14EachStep: an interval of the box comes out as it is, and each operation
// does what Do says, which P11's tests hold.
func TestP14EachStep(t *testing.T) {
	for _, a := range decorations() {
		wantEval(t, []api.Step{vari(0)}, []api.Decorated{a}, a)
		for o := api.Neg; o < api.Add; o++ {
			wantEval(t, []api.Step{vari(0), op(o)}, []api.Decorated{a}, spans.Do(o, a, a))
		}
		for _, b := range decorations() {
			for o := api.Add; o <= api.Max; o++ {
				wantEval(t, []api.Step{vari(0), vari(1), op(o)}, []api.Decorated{a, b}, spans.Do(o, a, b))
				wantEval(t, []api.Step{vari(1), vari(0), op(o)}, []api.Decorated{a, b}, spans.Do(o, b, a))
			}
		}
	}
}

// TestP14Decorations: the least of those that a value came from comes through,
// and that of an interval that is not used does not matter.
func TestP14Decorations(t *testing.T) {
	for _, d := range sayings {
		for _, e := range sayings {
			box := []api.Decorated{dec(iv(1, 2), d), dec(iv(3, 4), e)}
			wantEval(t, []api.Step{vari(0), con(1), op(api.Add)}, box, dec(iv(2, 3), d))
			wantEval(t, []api.Step{con(1), vari(1), op(api.Add)}, box, dec(iv(4, 5), e))
			wantEval(t, []api.Step{vari(0), vari(1), op(api.Add)}, box, dec(iv(4, 6), min(d, e)))
			wantEval(t, []api.Step{vari(0), vari(1), op(api.Add), op(api.Neg), con(1), op(api.Sub)}, box, dec(iv(-7, -5), min(d, e)))
			wantEval(t, []api.Step{con(1)}, box, dec(iv(1, 1), api.Com))
		}
	}
}

// TestP14EachIndex: of boxes of one to four.
func TestP14EachIndex(t *testing.T) {
	all := []api.Decorated{dec(iv(1, 2), api.Com), dec(iv(3, 4), api.Dac), dec(iv(5, 6), api.Def), dec(iv(7, 8), api.Trv)}
	for n := 1; n <= api.MaxBox; n++ {
		for i := range n {
			wantEval(t, []api.Step{vari(i)}, all[:n], all[i])
		}
	}
}

// TestP14AsDecorateMakesThem: the box's intervals say no more than they may, and
// have no -0.
func TestP14AsDecorateMakesThem(t *testing.T) {
	for _, c := range []struct{ a, want api.Decorated }{
		{dec(iv(1, inf), api.Com), dec(iv(1, inf), api.Dac)},
		{dec(iv(-inf, 1), api.Com), dec(iv(-inf, 1), api.Dac)},
		{dec(whole, api.Com), dec(whole, api.Dac)},
		{dec(none, api.Com), dec(none, api.Trv)},
		{dec(none, api.Dac), dec(none, api.Trv)},
		{dec(none, api.Def), dec(none, api.Trv)},
		{dec(none, api.Trv), dec(none, api.Trv)},
		{dec(iv(minusZero, 1), api.Com), dec(iv(0, 1), api.Com)},
		{dec(iv(-1, minusZero), api.Def), dec(iv(-1, 0), api.Def)},
		{dec(iv(minusZero, inf), api.Com), dec(iv(0, inf), api.Dac)},
	} {
		box := []api.Decorated{dec(iv(1, 2), api.Com), c.a}
		wantEval(t, []api.Step{vari(1)}, box, c.want)
		wantEval(t, []api.Step{vari(0)}, box, box[0])
		wantEval(t, []api.Step{vari(1), op(api.Abs)}, box, spans.Do(api.Abs, c.want, c.want))
	}
	// A bounded result says no more than what it came from.
	wantEval(t, []api.Step{vari(0), op(api.Recip)}, com(iv(2, inf)), dec(iv(0, 0.5), api.Dac))
	wantEval(t, []api.Step{vari(0), vari(1), op(api.Add)}, com(iv(1, 2), none), dec(none, api.Trv))
}

// TestP14Ill: at each index of boxes of one to four, whatever makes it Ill, and
// whether a step uses it or another one or none.
func TestP14Ill(t *testing.T) {
	for _, bad := range ills() {
		for n := 1; n <= api.MaxBox; n++ {
			for i := range n {
				box := com(iv(1, 2), none, iv(4, inf), iv(0, 0))[:n]
				box[i] = bad
				wantEval(t, []api.Step{con(1)}, box, ill)
				for j := range n {
					wantEval(t, []api.Step{vari(j)}, box, ill)
					wantEval(t, []api.Step{vari(j), op(api.Sqr), con(2), op(api.Add)}, box, ill)
				}
			}
		}
	}
}

// TestP13Box: 4 intervals, and more, beside all else that may be wrong.
func TestP13Box(t *testing.T) {
	x := dec(iv(1, 2), api.Com)
	wantEval(t, []api.Step{vari(3)}, slices.Repeat([]api.Decorated{x}, 4), x)
	for _, n := range []int{5, 6, 8, 99, 100000} {
		for _, a := range append(ills(), x, dec(none, api.Trv)) {
			box := slices.Repeat([]api.Decorated{x}, n)
			box[n-1] = a
			wantError(t, []api.Step{con(1)}, box, api.ErrBox)
			wantError(t, []api.Step{vari(n - 1)}, box, api.ErrBox)
			for _, steps := range noPrograms() {
				wantError(t, steps, box, api.ErrBox)
			}
		}
	}
}

// noPrograms are steps that are no program over any box.
func noPrograms() [][]api.Step {
	return [][]api.Step{
		nil,
		{},
		{op(api.Neg)},
		{op(api.Add)},
		{con(1), op(api.Add)},
		{con(1), con(2)},
		{con(nan)},
		{con(inf)},
		{vari(-1)},
		{vari(api.MaxBox)},
		{op(api.Var + 1)},
		{con(1), op(-1)},
		times(api.MaxSteps+1, con(1)),
		program([]api.Step{con(1)}, times(api.MaxSteps, op(api.Neg))),
		program(times(api.MaxStack+1, con(1)), times(api.MaxStack, op(api.Add))),
	}
}

// TestP13NoProgram: whatever the box is, Ill or not.
func TestP13NoProgram(t *testing.T) {
	boxes := [][]api.Decorated{nil, {}, com(iv(1, 2)), com(iv(1, 2), none, whole, iv(0, 0))}
	for _, bad := range ills() {
		boxes = append(boxes, []api.Decorated{bad}, []api.Decorated{dec(iv(1, 2), api.Com), bad})
	}
	for _, box := range boxes {
		for _, steps := range noPrograms() {
			wantError(t, steps, box, api.ErrProgram)
		}
		wantError(t, []api.Step{vari(len(box))}, box, api.ErrProgram)
	}
}

func TestP13Steps(t *testing.T) {
	wantError(t, nil, nil, api.ErrProgram)
	for n := 1; n < 60; n++ {
		steps := program([]api.Step{con(1)}, times(n-1, op(api.Neg)))
		if n > 24 {
			wantError(t, steps, nil, api.ErrProgram)
			continue
		}
		sign := float64(1 - 2*((n-1)%2))
		wantEval(t, steps, nil, dec(iv(sign, sign), api.Com))
	}
	// And with other steps than these: 23, 24 and 25.
	sum := program([]api.Step{con(0)}, times(11, con(2), op(api.Add)))
	wantEval(t, sum, nil, dec(iv(22, 22), api.Com))
	wantEval(t, program(sum, times(1, op(api.Neg))), nil, dec(iv(-22, -22), api.Com))
	wantError(t, program(sum, times(1, con(2), op(api.Add))), nil, api.ErrProgram)
	wantError(t, program([]api.Step{con(1)}, times(1000000, op(api.Neg))), nil, api.ErrProgram)
}

// TestP13Stack: 8 values at one time, and more, put by Const or Var, at once or
// after others were taken off.
func TestP13Stack(t *testing.T) {
	box := com(iv(1, 2))
	for n := 1; n <= 12; n++ {
		down := times(n-1, op(api.Add))
		numbers := program(times(n, con(1)), down)
		intervals := program(times(n, vari(0)), down)
		negated := program(times(n, con(1)), times(1, op(api.Neg)), down)
		again := program(times(2, con(0)), times(1, op(api.Add)), times(n-1, con(1)), down)
		if n > 8 {
			for _, steps := range [][]api.Step{numbers, intervals, negated, again} {
				wantError(t, steps, box, api.ErrProgram)
			}
			continue
		}
		x := float64(n)
		wantEval(t, numbers, box, dec(iv(x, x), api.Com))
		wantEval(t, intervals, box, dec(iv(x, 2*x), api.Com))
		wantEval(t, negated, box, dec(iv(x-2, x-2), api.Com))
		wantEval(t, again, box, dec(iv(x-1, x-1), api.Com))
	}
}

// TestP13StackFullAgain: to 8 values, back to 5, to 8 again or one more, and back
// to 1.
func TestP13StackFullAgain(t *testing.T) {
	five := program(times(8, con(1)), times(3, op(api.Add)))
	wantEval(t, program(five, times(3, con(2)), times(7, op(api.Add))), nil, dec(iv(14, 14), api.Com))
	wantError(t, program(five, times(4, con(2)), times(8, op(api.Add))), nil, api.ErrProgram)
}

// TestP13OneAtLast: two to eight values that are left are no answer.
func TestP13OneAtLast(t *testing.T) {
	box := com(iv(1, 2), iv(3, 4))
	wantEval(t, []api.Step{con(1)}, box, dec(iv(1, 1), api.Com))
	for n := 2; n <= 8; n++ {
		wantError(t, times(n, con(1)), box, api.ErrProgram)
		wantError(t, times(n, vari(1)), box, api.ErrProgram)
		wantError(t, program(times(n, con(1)), times(1, op(api.Neg))), box, api.ErrProgram)
		wantError(t, program(times(n, con(1)), times(n-2, op(api.Add))), box, api.ErrProgram)
	}
}

// TestP13TooFew: even if enough come later.
func TestP13TooFew(t *testing.T) {
	box := com(iv(1, 2), iv(3, 4))
	for o := api.Neg; o <= api.Max; o++ {
		wantError(t, []api.Step{op(o)}, box, api.ErrProgram)
		wantError(t, []api.Step{op(o), con(1)}, box, api.ErrProgram)
		wantError(t, []api.Step{op(o), con(1), con(2), op(api.Add)}, box, api.ErrProgram)
		if o >= api.Add {
			wantError(t, []api.Step{con(1), op(o)}, box, api.ErrProgram)
			wantError(t, []api.Step{vari(0), op(o), vari(1)}, box, api.ErrProgram)
			wantError(t, []api.Step{con(1), con(2), op(o), op(o)}, box, api.ErrProgram)
			wantError(t, []api.Step{con(1), op(api.Neg), op(o)}, box, api.ErrProgram)
		}
	}
}

// TestP13Const: finite ones, of which -0 is 0; no others.
func TestP13Const(t *testing.T) {
	wantEval(t, []api.Step{con(minusZero)}, nil, dec(iv(0, 0), api.Com))
	wantEval(t, []api.Step{con(minusZero), op(api.Neg)}, nil, dec(iv(0, 0), api.Com))
	wantEval(t, []api.Step{con(most)}, nil, dec(iv(most, most), api.Com))
	wantEval(t, []api.Step{con(-most)}, nil, dec(iv(-most, -most), api.Com))
	wantEval(t, []api.Step{con(least)}, nil, dec(iv(least, least), api.Com))
	for _, x := range anyBits() {
		if finite(x) {
			wantEval(t, []api.Step{con(x)}, nil, dec(iv(plain(x), plain(x)), api.Com))
			continue
		}
		wantError(t, []api.Step{con(x)}, nil, api.ErrProgram)
		wantError(t, []api.Step{con(1), con(x), op(api.Add)}, com(whole), api.ErrProgram)
		wantError(t, []api.Step{con(x), op(api.Sqrt)}, nil, api.ErrProgram)
	}
}

// TestP13Index: of boxes of none to four.
func TestP13Index(t *testing.T) {
	for n := range api.MaxBox + 1 {
		box := com(iv(1, 2), iv(3, 4), iv(5, 6), iv(7, 8))[:n]
		for _, i := range []int{math.MinInt, math.MinInt32, -2, -1, n, n + 1, api.MaxBox, api.MaxBox + 1, 1 << 32, math.MaxInt} {
			wantError(t, []api.Step{vari(i)}, box, api.ErrProgram)
			wantError(t, []api.Step{con(1), vari(i), op(api.Add)}, box, api.ErrProgram)
		}
	}
}

// TestP13OtherOperations: below the first and above the last, wherever they stand.
func TestP13OtherOperations(t *testing.T) {
	box := com(iv(1, 2), iv(3, 4))
	for _, o := range append(anyOps(), -2, api.Var+2, 1<<32+api.Neg, math.MinInt+api.Const) {
		if o >= api.Neg && o <= api.Var {
			continue
		}
		wantError(t, []api.Step{op(o)}, box, api.ErrProgram)
		wantError(t, []api.Step{con(1), op(o)}, box, api.ErrProgram)
		wantError(t, []api.Step{op(o), con(1)}, box, api.ErrProgram)
		wantError(t, []api.Step{con(1), con(2), op(o)}, box, api.ErrProgram)
		wantError(t, []api.Step{con(1), con(2), op(o), op(api.Add)}, box, api.ErrProgram)
		wantError(t, []api.Step{vari(0), op(o), op(api.Neg)}, box, api.ErrProgram)
	}
}

// TestP13WhatIsNotAsked: only of Var it is asked what Index is, and of Const what
// Value is.
func TestP13WhatIsNotAsked(t *testing.T) {
	box := com(iv(1, 2))
	five, three := dec(iv(5, 5), api.Com), dec(iv(3, 3), api.Com)
	for _, i := range []int{math.MinInt, -1, 0, 1, 4, math.MaxInt} {
		for _, x := range []float64{nan, inf, -inf, minusZero, 7} {
			wantEval(t, []api.Step{{Op: api.Const, Index: i, Value: 3}}, box, three)
			wantEval(t, []api.Step{{Op: api.Var, Index: 0, Value: x}}, box, box[0])
			for o := api.Neg; o < api.Add; o++ {
				wantEval(t, []api.Step{con(5), {Op: o, Index: i, Value: x}}, box, spans.Do(o, five, five))
			}
			for o := api.Add; o <= api.Max; o++ {
				wantEval(t, []api.Step{con(5), con(3), {Op: o, Index: i, Value: x}}, box, spans.Do(o, five, three))
			}
		}
	}
}

// backwards is the value that the last of the steps makes, and the steps ahead
// of those that it took for it; ok is false, if there are none that make it. It
// has no stack: it reads an operation's values from its end.
func backwards(steps []api.Step, box []api.Decorated) (a api.Decorated, ahead []api.Step, ok bool) {
	if len(steps) == 0 {
		return api.Decorated{}, nil, false
	}
	last, ahead := steps[len(steps)-1], steps[:len(steps)-1]
	switch {
	case last.Op == api.Const:
		return spans.Decorate(iv(last.Value, last.Value), api.Com), ahead, finite(last.Value)
	case last.Op == api.Var && last.Index >= 0 && last.Index < len(box):
		return spans.Decorate(box[last.Index].Interval, box[last.Index].Deco), ahead, true
	case last.Op < api.Neg || last.Op > api.Max:
		return api.Decorated{}, nil, false
	}
	b, ahead, ok := backwards(ahead, box)
	if !ok || last.Op < api.Add {
		return spans.Do(last.Op, b, b), ahead, ok
	}
	a, ahead, ok = backwards(ahead, box)
	return spans.Do(last.Op, a, b), ahead, ok
}

// TestP13ShortPrograms: all steps up to five of these, over boxes of none, one
// and two.
func TestP13ShortPrograms(t *testing.T) {
	each := []api.Step{con(2), con(nan), vari(0), vari(1), op(api.Sqrt), op(api.Sub), op(api.Var + 1)}
	boxes := [][]api.Decorated{nil, com(iv(-1, 4)), {dec(iv(2, inf), api.Com), dec(iv(1, 3), api.Def)}}
	programs := [][]api.Step{nil}
	for n := 0; n < len(programs) && len(programs[n]) < 5; n++ {
		for _, s := range each {
			programs = append(programs, append(slices.Clone(programs[n]), s))
		}
	}
	for _, steps := range programs {
		for _, box := range boxes {
			want, ahead, ok := backwards(steps, box)
			if !ok || len(ahead) > 0 {
				wantError(t, steps, box, api.ErrProgram)
				continue
			}
			wantEval(t, steps, box, want)
		}
	}
}

// sums are all programs that add up n ones, and beside each the most values that
// it has at one time.
func sums(n int) (programs [][]api.Step, heights []int) {
	if n == 1 {
		return [][]api.Step{{con(1)}}, []int{1}
	}
	for k := 1; k < n; k++ {
		first, firstHeights := sums(k)
		second, secondHeights := sums(n - k)
		for i := range first {
			for j := range second {
				programs = append(programs, program(first[i], second[j], times(1, op(api.Add))))
				heights = append(heights, max(firstHeights[i], 1+secondHeights[j]))
			}
		}
	}
	return programs, heights
}

// TestP13AllSums: of eleven ones, which are 21 steps, some go above 8 values on
// their way.
func TestP13AllSums(t *testing.T) {
	for _, n := range []int{2, 7, 8, 9, 10, 11} {
		programs, heights := sums(n)
		for i, steps := range programs {
			if heights[i] > 8 {
				wantError(t, steps, nil, api.ErrProgram)
				continue
			}
			wantEval(t, steps, nil, dec(iv(float64(n), float64(n)), api.Com))
		}
	}
}

// anySteps are of all operations and none, with any Index and Value: hardly ever
// a program.
func anySteps(r *rand.Rand, bits []float64) []api.Step {
	ops := anyOps()
	var steps []api.Step
	for range r.Intn(api.MaxSteps + 2) {
		steps = append(steps, api.Step{Op: ops[r.Intn(len(ops))], Index: r.Intn(7) - 1, Value: bits[r.Intn(len(bits))]})
	}
	return steps
}

// anyProgram is one over the box, of up to 24 steps: it puts values and takes
// them off as it comes, as long as there are steps left to come back to one.
func anyProgram(r *rand.Rand, bits []float64, box []api.Decorated) []api.Step {
	var steps []api.Step
	count := 0
	for limit := 1 + r.Intn(api.MaxSteps); count == 0 || len(steps)+count < limit; {
		x := bits[r.Intn(len(bits))]
		switch kind := r.Intn(4); {
		case kind == 0 && finite(x) && count < api.MaxStack:
			steps = append(steps, con(x))
			count++
		case kind == 1 && len(box) > 0 && count < api.MaxStack:
			steps = append(steps, vari(r.Intn(len(box))))
			count++
		case kind == 2 && count > 0:
			steps = append(steps, op(api.Op(r.Intn(int(api.Add)))))
		case kind == 3 && count > 1:
			steps = append(steps, anyOfTwo(r))
			count--
		}
	}
	for range count - 1 {
		steps = append(steps, anyOfTwo(r))
	}
	return steps
}

func anyOfTwo(r *rand.Rand) api.Step { return op(api.Add + api.Op(r.Intn(int(api.Const-api.Add)))) }

// anyBox has none to limit intervals of these.
func anyBox(r *rand.Rand, all []api.Decorated, limit int) []api.Decorated {
	var box []api.Decorated
	for range r.Intn(limit + 1) {
		box = append(box, all[r.Intn(len(all))])
	}
	return box
}

func TestP14LongPrograms(t *testing.T) {
	r := rand.New(rand.NewSource(2))
	bits := append(anyBits(), 1, 1, 2, 3, -1, -2, 0.5, 1.5, minusZero)
	for range 5000 {
		box := anyBox(r, decorations(), api.MaxBox)
		steps := anyProgram(r, bits, box)
		want, _, _ := backwards(steps, box)
		wantEval(t, steps, box, want)
	}
}

// anyDecorated are of all bits: many of them are Ill.
func anyDecorated(bits []float64) []api.Decorated {
	decos := append(append(notDecos, api.Ill), sayings...)
	var all []api.Decorated
	for i, lo := range bits {
		for j, hi := range bits {
			all = append(all, dec(iv(lo, hi), decos[(i+j)%len(decos)]), dec(iv(min(lo, hi), max(lo, hi)), api.Com))
		}
	}
	return all
}

// TestP1ProgramsOfAllBits: at any steps and boxes the call ends without a panic,
// and an interval comes out, or nothing beside an error.
func TestP1ProgramsOfAllBits(t *testing.T) {
	r := rand.New(rand.NewSource(3))
	bits := anyBits()
	all := anyDecorated(bits)
	for range 5000 {
		box := anyBox(r, all, api.MaxBox+1)
		for _, steps := range [][]api.Step{anySteps(r, bits), anyProgram(r, bits, box)} {
			got, errno := spans.Eval(steps, box)
			if errno == api.OK {
				wantDecorated(t, "Eval", got)
				continue
			}
			if errno != api.ErrBox && errno != api.ErrProgram {
				t.Errorf("P1: Eval(%v, %x) answers %d, which is no error", steps, box, errno)
			}
			wantError(t, steps, box, errno)
		}
	}
}

// sameStep: to the bit.
func sameStep(a api.Step, b api.Step) bool {
	return a.Op == b.Op && a.Index == b.Index && same(a.Value, b.Value)
}

// TestP2ProgramsNotWrittenInto: the steps and the box are as they were, and so is
// what lies behind their ends, whether they are a program or not.
func TestP2ProgramsNotWrittenInto(t *testing.T) {
	r := rand.New(rand.NewSource(4))
	bits := anyBits()
	all := append(anyDecorated(bits), decorations()...)
	for range 5000 {
		box := anyBox(r, all, api.MaxBox+2)
		for _, steps := range [][]api.Step{anySteps(r, bits), anyProgram(r, bits, box)} {
			stepsWere, boxWas := slices.Clone(steps), slices.Clone(box)
			spans.Eval(steps[:len(steps)*2/3], box[:len(box)*2/3])
			spans.Eval(steps, box)
			if !slices.EqualFunc(steps, stepsWere, sameStep) || !slices.EqualFunc(box, boxWas, sameDecorated) {
				t.Errorf("P2: Eval(%v, %x) left %v, %x", stepsWere, boxWas, steps, box)
			}
		}
	}
}

// TestP2ProgramsNothingKept: an answer does not hang on what was asked before, nor
// on what becomes of the steps and the box after the call.
func TestP2ProgramsNothingKept(t *testing.T) {
	steps := []api.Step{vari(0), con(3), op(api.Sub)}
	box := com(iv(1, 2))
	before, _ := spans.Eval(steps, box)
	steps[1], box[0] = con(5), dec(iv(7, 8), api.Def)
	wantEval(t, steps, box, dec(iv(2, 3), api.Def))
	for _, wrong := range noPrograms() {
		wantError(t, wrong, com(iv(1, 2)), api.ErrProgram)
		wantEval(t, steps, box, dec(iv(2, 3), api.Def))
	}
	if !sameDecorated(before, dec(iv(-2, -1), api.Com)) {
		t.Errorf("P2: the answer became %x", before)
	}
}

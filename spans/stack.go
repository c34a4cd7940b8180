package spans

import "spans/api"

// stack has the values that steps have put and not taken off. What no program
// may do to it ends in a panic, which run recovers.
type stack struct {
	values [api.MaxStack]api.Decorated
	count  int
}

// do is one step over the box.
func (s *stack) do(step api.Step, box []api.Decorated) {
	does := operationOf(step.Op)
	switch {
	case step.Op == api.Const:
		s.put(constant(step.Value))
	case step.Op == api.Var:
		s.put(variable(box, step.Index))
	case does.ofOne != nil:
		a := s.take()
		s.put(Do(step.Op, a, a))
	case does.ofTwo != nil:
		b := s.take()
		a := s.take()
		s.put(Do(step.Op, a, b))
	default:
		panic(api.ErrProgram)
	}
}

func constant(x float64) api.Decorated {
	if !isFinite(x) {
		panic(api.ErrProgram)
	}
	return Decorate(api.Interval{Lo: x, Hi: x}, api.Com)
}

func variable(box []api.Decorated, index int) api.Decorated {
	if index < 0 || index >= len(box) {
		panic(api.ErrProgram)
	}
	return fromBox(box, index)
}

func (s *stack) put(a api.Decorated) {
	if s.count == len(s.values) {
		panic(api.ErrProgram)
	}
	s.values[s.count] = a
	s.count++
}

func (s *stack) take() api.Decorated {
	if s.count == 0 {
		panic(api.ErrProgram)
	}
	s.count--
	return s.values[s.count]
}

// only is the value at last, which must be the only one.
func (s *stack) only() api.Decorated {
	if s.count != 1 {
		panic(api.ErrProgram)
	}
	return s.take()
}

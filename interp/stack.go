package interp

import "gaffer/api"

// stack: the first many of its items are on it; an array, so that a copy shares nothing.
type stack[T any] struct {
	items [api.MaxStack]T
	many  int
}

func (s *stack[T]) push(item T) {
	if s.many == api.MaxStack {
		panic(trap(api.TrapStack))
	}
	s.items[s.many] = item
	s.many++
}

func (s *stack[T]) pop() T {
	if s.many == 0 {
		panic(trap(api.TrapEmpty))
	}
	s.many--
	return s.items[s.many]
}

package store

import "marginalia/api"

// gone stands for the new number of an object that is not left.
const gone = -1

// Collect leaves only the objects that can be come to from roots, and answers roots with the numbers that these have now.
func (s *Store) Collect(roots ...api.Value) ([]api.Value, api.Errno) {
	switch {
	case s == nil:
		return nil, api.ErrArg
	case !s.all(roots):
		return nil, api.ErrForm
	}
	numbers := s.numbers(roots)
	s.keep(numbers)
	moved := own(roots)
	renumber(moved, numbers)
	return moved, api.OK
}

// numbers answers the new number of each object, or gone.
func (s *Store) numbers(roots []api.Value) []int {
	numbers := make([]int, len(s.objects))
	for i := range numbers {
		numbers[i] = gone
	}
	s.reach(roots, numbers)
	n := 0
	for i := range numbers {
		if numbers[i] != gone {
			numbers[i] = n
			n++
		}
	}
	return numbers
}

// reach gives each object that can be come to from roots its number of now.
func (s *Store) reach(roots []api.Value, numbers []int) {
	for left := [][]api.Value{roots}; len(left) > 0; {
		var list []api.Value
		list, left = last(left)
		for _, v := range list {
			if v.Tag == api.TObj && numbers[v.N] == gone {
				numbers[v.N] = v.N
				left = append(left, s.objects[v.N].slots)
			}
		}
	}
}

// keep leaves only the objects that have a new number.
func (s *Store) keep(numbers []int) {
	kept := s.objects[:0]
	s.used = 0
	for i, o := range s.objects {
		if numbers[i] != gone {
			renumber(o.slots, numbers)
			kept = append(kept, o)
			s.used += o.cells
		}
	}
	clear(s.objects[len(kept):]) // what they had is not held
	s.objects = kept
}

// renumber gives the objects in list their new numbers.
func renumber(list []api.Value, numbers []int) {
	for i, v := range list {
		if v.Tag == api.TObj {
			list[i].N = numbers[v.N]
		}
	}
}

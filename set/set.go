// Package set is layer 1: see shared/doc/01-set.md.
package set

import "slices"

// Of is a set of numbers.
func Of(l ...int) []int {
	return those(l, func(int) bool { return true })
}

// Valid is whether numbers are a set.
func Valid(l []int) bool {
	for i := 1; i < len(l); i++ {
		if l[i] <= l[i-1] {
			return false
		}
	}
	return true
}

// Has is whether a number is in a set.
func Has(l []int, x int) bool { return slices.Contains(l, x) }

// Place is where a number stands in a set, or would stand.
func Place(l []int, x int) int {
	return len(those(l, func(y int) bool { return y < x }))
}

// Add is a set with a number.
func Add(l []int, x int) []int { return Union(l, []int{x}) }

// Del is a set without a number.
func Del(l []int, x int) []int {
	return those(l, func(y int) bool { return y != x })
}

// Union is what is in one of two sets.
func Union(a, b []int) []int { return Of(slices.Concat(a, b)...) }

// Both is what is in both of two sets.
func Both(a, b []int) []int { return those(a, in(b)) }

// Minus is what is in a set, and not in another one.
func Minus(a, b []int) []int { return those(a, not(in(b))) }

// Within is whether all of a set is in another one.
func Within(a, b []int) bool { return !slices.ContainsFunc(a, not(in(b))) }

// those is the set of the numbers of which something is told. They are copied ahead of being sorted: a row that is handed in stays as it is.
func those(l []int, told func(x int) bool) []int {
	var s []int
	for _, x := range l {
		if told(x) {
			s = append(s, x)
		}
	}
	slices.Sort(s)
	return slices.Compact(s)
}

// in tells of a number whether it is one of l. The set is made once, so that many numbers may be asked of.
func in(l []int) func(x int) bool {
	s := Of(l...)
	return func(x int) bool {
		_, found := slices.BinarySearch(s, x)
		return found
	}
}

// not tells the contrary of what is told.
func not(told func(x int) bool) func(x int) bool {
	return func(x int) bool { return !told(x) }
}

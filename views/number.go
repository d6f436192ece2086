package views

import "cmp"

// number is one that is held against others.
type number int

// against is above 0, 0 or below it, as n is above m, is m, or is below it.
func (n number) against(m number) int {
	return cmp.Compare(n, m)
}

// order hands on how two numbers are held against one another, for what puts many of them in order.
func order() func(n, m number) int {
	return number.against
}

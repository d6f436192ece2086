package stage

import (
	"slices"
	"strings"
)

const numberSize = 4

// laid is numbers as bytes, four each, the highest first: a sum may be greater than the numbers that package code
// lays so.
func laid(list ...int) string {
	var b []byte
	for _, n := range list {
		b = append(b, byte(n>>24), byte(n>>16), byte(n>>8), byte(n))
	}
	return string(b)
}

// numbers are those that bytes tell. Whether all of the bytes are laid so is for the caller to see.
func numbers(laid string) []int {
	var list []int
	for b := range slices.Chunk([]byte(laid), numberSize) {
		n := 0
		for _, x := range b {
			n = n<<8 | int(x)
		}
		list = append(list, n)
	}
	return list
}

// blank tells whether all bytes are 0.
func blank(b string) bool {
	return strings.Trim(b, "\x00") == ""
}

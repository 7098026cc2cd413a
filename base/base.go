// Package base: the letters that bases are, and their numbers.
package base

import (
	"strings"

	"pilgrim/api"
)

// A letter's place in Letters is its number, so that those of A, C, G and T are the bits of a code.
const (
	Letters  = "ACGTN"
	Partners = "TGCAN" // what each becomes, if it is turned
	Any      = 4       // the number of N
)

// Each hands the bases on with their places and numbers, and stops at the first byte that is none.
func Each(bases string, step func(place, number int)) api.Errno {
	for i := range len(bases) {
		n := strings.IndexByte(Letters, bases[i])
		if n < 0 {
			return api.ErrByte
		}
		step(i, n)
	}
	return api.OK
}

package seq

import (
	"strings"

	"pilgrim/api"
)

// A letter's place in letters is its number, so that those of A, C, G and T are the bits of a code.
const (
	letters  = "ACGTN"
	partners = "TGCAN"
	anyBase  = 4
)

// numberOf tells the number of a base; below 0, if the byte is none.
func numberOf(letter byte) int {
	return strings.IndexByte(letters, letter)
}

// eachBase hands the bases on with their places, and stops at the first byte that is none.
func eachBase(bases string, step func(place, number int)) api.Errno {
	for i := range len(bases) {
		n := numberOf(bases[i])
		if n < 0 {
			return api.ErrByte
		}
		step(i, n)
	}
	return api.OK
}

// turner writes bases from the last place to the first.
type turner struct {
	turned []byte
}

func (t *turner) base(place, number int) {
	t.turned[len(t.turned)-1-place] = partners[number]
}

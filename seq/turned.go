package seq

import "pilgrim/base"

// turner writes bases from the last place to the first.
type turner struct {
	turned []byte
}

func (t *turner) base(place, number int) {
	t.turned[len(t.turned)-1-place] = base.Partners[number]
}

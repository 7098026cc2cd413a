package base_test

import (
	"slices"
	"testing"

	"pilgrim/api"
	"pilgrim/base"
)

// taker keeps what was handed on.
type taker struct {
	places, numbers []int
}

func (k *taker) take(place, number int) {
	k.places = append(k.places, place)
	k.numbers = append(k.numbers, number)
}

func TestEachHandsBasesOn(t *testing.T) {
	var k taker
	if e := base.Each("GANTC", k.take); e != api.OK {
		t.Errorf("Each = %d", e)
	}
	if !slices.Equal(k.places, []int{0, 1, 2, 3, 4}) || !slices.Equal(k.numbers, []int{2, 0, base.Any, 3, 1}) {
		t.Errorf("Each handed on %v at %v", k.numbers, k.places)
	}
}

func TestEachStopsAtAByteThatIsNone(t *testing.T) {
	var k taker
	if e := base.Each("ACxGT", k.take); e != api.ErrByte || len(k.places) != 2 {
		t.Errorf("Each = %d after %d bases", e, len(k.places))
	}
	if e := base.Each("", k.take); e != api.OK || len(k.places) != 2 {
		t.Errorf("Each of nothing = %d", e)
	}
}

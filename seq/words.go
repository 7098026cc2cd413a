package seq

import (
	"pilgrim/api"
	"pilgrim/base"
)

const factor = 2654435761

// scanner reads bases and hands on each word, with its code and that of it turned.
type scanner struct {
	k            int
	run          int // bases side by side, none of them N
	code, turned uint64
	each         func(place int, code, turned uint64)
}

func (s *scanner) base(place, number int) {
	if number == base.Any {
		s.run = 0
		return
	}
	// after N the old bits need no clearing: k bases shift all of them out
	n := uint64(number)
	s.code = (s.code<<2 | n) & allBits(s.k)
	s.turned = s.turned>>2 | (3-n)<<(2*s.k-2)
	s.run++
	if s.run >= s.k {
		s.each(place-s.k+1, s.code, s.turned)
	}
}

// allBits is the greatest code of k bases.
func allBits(k int) uint64 {
	return 1<<(2*k) - 1
}

func hash(code uint64, k int) int {
	h := code * factor & allBits(k)
	return int(h ^ h>>k)
}

// picker picks the words that stand for windows.
type picker struct {
	k, w   int
	next   int        // where a word side by side with the last one begins
	run    int        // words side by side
	open   []api.Word // those that this window, or a later one, may be stood for by: their hashes never fall
	picked []api.Word
}

func (p *picker) word(place int, code, turned uint64) {
	p.move(place)
	if code != turned {
		p.add(api.Word{Hash: hash(min(code, turned), p.k), Place: place, Back: turned < code})
	}
	if p.run >= p.w && len(p.open) > 0 {
		p.pick(p.open[0])
	}
}

// move lets the window end with the word at this place.
func (p *picker) move(place int) {
	if place != p.next {
		p.run = 0
		p.open = p.open[:0]
	}
	p.next = place + 1
	p.run++
	if len(p.open) > 0 && p.open[0].Place <= place-p.w {
		p.open = p.open[1:]
	}
}

// add lets go of the words that no window with the new one can be stood for by.
func (p *picker) add(word api.Word) {
	for len(p.open) > 0 && p.open[len(p.open)-1].Hash > word.Hash {
		p.open = p.open[:len(p.open)-1]
	}
	p.open = append(p.open, word)
}

// pick needs to look at the last word alone: those that stand for windows come by rising places.
func (p *picker) pick(word api.Word) {
	if n := len(p.picked); n == 0 || p.picked[n-1].Place != word.Place {
		p.picked = append(p.picked, word)
	}
}

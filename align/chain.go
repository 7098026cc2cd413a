package align

import (
	"cmp"
	"math/bits"
	"slices"

	"pilgrim/api"
)

const (
	maxNumber = 10000 // of an anchor
	none      = -1    // the number of a predecessor that is not there
)

func chainError(anchors []api.Anchor, k int) api.Errno {
	switch {
	case k < 1 || k > api.MaxK:
		return api.ErrOptions
	case len(anchors) > api.MaxHits:
		return api.ErrLong
	case len(anchors) == 0:
		return api.ErrNone
	case slices.ContainsFunc(anchors, outOfBounds):
		return api.ErrByte
	}
	return api.OK
}

func outOfBounds(a api.Anchor) bool {
	return min(a.Read, a.Place) < 0 || max(a.Read, a.Place) > maxNumber
}

// anchor is an api.Anchor that knows its order.
type anchor api.Anchor

func (a anchor) compare(b anchor) int {
	return cmp.Or(cmp.Compare(a.Place, b.Place), cmp.Compare(a.Read, b.Read))
}

// mayFollow tells whether a chain may go from b to a.
func (a anchor) mayFollow(b anchor) bool {
	return b.Place < a.Place && b.Read < a.Read
}

// eachAnchor hands the anchors on in their order, each once.
func eachAnchor(anchors []api.Anchor, step func(a anchor)) {
	sorted := make([]anchor, 0, len(anchors))
	for _, a := range anchors {
		sorted = append(sorted, anchor(a))
	}
	slices.SortFunc(sorted, anchor.compare)
	for _, a := range slices.Compact(sorted) {
		step(a)
	}
}

// link is the end of the best chain that ends with an anchor.
type link struct {
	at          anchor
	score       float64
	predecessor int // the number of a link
}

func (l link) compare(m link) int {
	return cmp.Compare(l.score, m.score)
}

// table has a link for each anchor, in the anchors' order.
type table struct {
	k     int
	links []link
}

func (t *table) add(a anchor) {
	best := link{at: a, score: float64(t.k), predecessor: none}
	for j, l := range t.links {
		if !a.mayFollow(l.at) {
			continue
		}
		// what is worth no more does not count: k alone stays, and the first one of the others
		if score := l.score + gain(a.Place-l.at.Place, a.Read-l.at.Read, t.k); score > best.score {
			best.score, best.predecessor = score, j
		}
	}
	t.links = append(t.links, best)
}

// gain is STEP less GAP, of how far two anchors are from one another in the reference and in the read.
func gain(a, b, k int) float64 {
	apart := max(a, b) - min(a, b)
	gap := float64(apart)/4 + float64(bits.Len(uint(apart)))/2
	return float64(min(a, b, k)) - gap
}

func (t *table) chain(end link) []api.Anchor {
	chain := []api.Anchor{api.Anchor(end.at)}
	for end.predecessor != none {
		end = t.links[end.predecessor]
		chain = append(chain, api.Anchor(end.at))
	}
	slices.Reverse(chain)
	return chain
}

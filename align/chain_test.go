package align_test

import (
	"math"
	"math/rand"
	"slices"
	"testing"

	"pilgrim/align"
	"pilgrim/api"
)

// at makes anchors of their numbers by turns: Read, Place.
func at(numbers ...int) []api.Anchor {
	var out []api.Anchor
	for i := 0; i < len(numbers); i += 2 {
		out = append(out, api.Anchor{Read: numbers[i], Place: numbers[i+1]})
	}
	return out
}

func checkChain(t *testing.T, anchors []api.Anchor, k int, want []api.Anchor, score float64) {
	t.Helper()
	got, s, e := align.Chain(anchors, k)
	if !slices.Equal(got, want) || s != score || e != api.OK {
		t.Fatalf("Chain(%v, %d) = %v, %v, %d, want %v, %v", anchors, k, got, s, e, want, score)
	}
}

func TestChainFindsTheBest(t *testing.T) {
	for _, c := range []struct {
		anchors []api.Anchor
		k       int
		want    []api.Anchor
		score   float64
	}{
		{at(5, 7), 4, at(5, 7), 4},
		{at(0, 10, 3, 13, 8, 19), 4, at(0, 10, 3, 13, 8, 19), 10.25},
		// STEP is the least of a, b and k
		{at(0, 0, 2, 2), 4, at(0, 0, 2, 2), 6},
		{at(0, 0, 4, 4), 4, at(0, 0, 4, 4), 8},
		{at(0, 0, 900, 900), 4, at(0, 0, 900, 900), 8},
		{at(0, 0, 2, 3), 4, at(0, 0, 2, 3), 4 + 2 - 0.75},
		{at(0, 0, 3, 2), 4, at(0, 0, 3, 2), 4 + 2 - 0.75},
		// GAP: a quarter of the difference, and a half for each of its bits
		{at(0, 0, 20, 21), 12, at(0, 0, 20, 21), 24 - 0.25 - 0.5},
		{at(0, 0, 20, 22), 12, at(0, 0, 20, 22), 24 - 0.5 - 1},
		{at(0, 0, 20, 23), 12, at(0, 0, 20, 23), 24 - 0.75 - 1},
		{at(0, 0, 20, 24), 12, at(0, 0, 20, 24), 24 - 1 - 1.5},
		{at(0, 0, 27, 20), 12, at(0, 0, 27, 20), 24 - 1.75 - 1.5},
		{at(0, 0, 28, 20), 12, at(0, 0, 28, 20), 24 - 2 - 2},
		{at(0, 0, 20, 51), 12, at(0, 0, 20, 51), 24 - 7.75 - 2.5},
		{at(0, 0, 20, 52), 12, at(0, 0, 20, 52), 24 - 8 - 3},
		{at(0, 0, 20, 55), 12, at(0, 0, 20, 55), 12.25},
		{at(0, 0, 20, 56), 12, at(0, 0), 12},
		// one that does not rise in both is no step
		{at(3, 0, 3, 5), 2, at(3, 0), 2},
		{at(0, 3, 5, 3), 2, at(0, 3), 2},
		{at(9, 0, 5, 5, 1, 9), 3, at(9, 0), 3},
		// it leaves out an anchor that is worth less than what it would cost
		{at(0, 0, 30, 14, 20, 20), 6, at(0, 0, 20, 20), 12},
		// the best one need not end with the last anchor
		{at(50, 0, 60, 10, 0, 300), 5, at(50, 0, 60, 10), 10},
	} {
		checkChain(t, c.anchors, c.k, c.want, c.score)
	}
}

func TestChainOfThoseThatAreWorthTheSame(t *testing.T) {
	// ends: by Place, then by Read
	checkChain(t, at(7, 9, 9, 7), 3, at(9, 7), 3)
	checkChain(t, at(9, 7, 7, 7, 8, 7), 3, at(7, 7), 3)
	checkChain(t, at(0, 20, 5, 25, 100, 0, 105, 5), 5, at(100, 0, 105, 5), 10)
	// predecessors: the first one, by Place, then by Read
	checkChain(t, at(0, 1, 1, 0, 10, 10), 2, at(1, 0, 10, 10), 3.25)
	checkChain(t, at(2, 0, 0, 2, 10, 10), 3, at(2, 0, 10, 10), 3+3-0.5-1)
	checkChain(t, at(4, 5, 2, 5, 20, 22), 2, at(2, 5, 20, 22), 3.25)
	// none, if k is as much: a step of 4 less a gap of 4
	checkChain(t, at(0, 0, 4, 12), 4, at(0, 0), 4)
	checkChain(t, at(0, 0, 4, 12, 8, 16), 4, at(4, 12, 8, 16), 8)
}

func TestChainTakesEachAnchorOnce(t *testing.T) {
	checkChain(t, at(5, 7, 5, 7), 4, at(5, 7), 4)
	checkChain(t, at(3, 13, 0, 10, 3, 13, 0, 10, 3, 13), 4, at(0, 10, 3, 13), 7)
	checkChain(t, make([]api.Anchor, api.MaxHits), 3, at(0, 0), 3)
}

func TestChainBounds(t *testing.T) {
	checkChain(t, at(0, 0, 1, 1), 1, at(0, 0, 1, 1), 2)
	checkChain(t, at(10000, 10000, 0, 0), api.MaxK, at(0, 0, 10000, 10000), 24)
	checkChain(t, at(0, 10000, 10000, 0), api.MaxK, at(10000, 0), 12)
	var line []api.Anchor
	for i := range api.MaxHits {
		line = append(line, api.Anchor{Read: 25 * i, Place: 25 * i})
	}
	checkChain(t, line, api.MaxK, line, api.MaxK*api.MaxHits)
}

func TestChainRefusesWrongInputs(t *testing.T) {
	many := make([]api.Anchor, api.MaxHits+1)
	for _, c := range []struct {
		anchors []api.Anchor
		k       int
		e       api.Errno
	}{
		{at(0, 0), 0, api.ErrOptions}, {at(0, 0), -1, api.ErrOptions}, {at(0, 0), api.MaxK + 1, api.ErrOptions},
		{at(0, 0), math.MinInt, api.ErrOptions}, {at(0, 0), math.MaxInt, api.ErrOptions},
		{many, 1, api.ErrLong}, {nil, 1, api.ErrNone}, {[]api.Anchor{}, api.MaxK, api.ErrNone},
		{at(-1, 0), 1, api.ErrByte}, {at(0, -1), 1, api.ErrByte}, {at(10001, 0), 1, api.ErrByte}, {at(0, 10001), 1, api.ErrByte},
		{at(math.MinInt, 0), 1, api.ErrByte}, {at(0, math.MinInt), 1, api.ErrByte}, {at(math.MaxInt, 0), 1, api.ErrByte}, {at(0, math.MaxInt), 1, api.ErrByte},
		{at(-1, 10001), 1, api.ErrByte}, {at(0, 0, 1, 1, 2, -1), 1, api.ErrByte}, {at(-1, 2, 1, 1, 2, 2), 1, api.ErrByte},
		// the one named first
		{many, 0, api.ErrOptions}, {nil, 0, api.ErrOptions}, {at(-1, 0), 13, api.ErrOptions}, {slices.Repeat(at(-1, 0), api.MaxHits+1), 1, api.ErrLong},
	} {
		if got, s, e := align.Chain(c.anchors, c.k); got != nil || s != 0 || e != c.e {
			t.Errorf("Chain(%d anchors, %d) = %v, %v, %d, want %d", len(c.anchors), c.k, got, s, e, c.e)
		}
	}
}

// quarters is STEP less GAP, in quarters.
func quarters(from, to api.Anchor, k int) int {
	a, b := to.Place-from.Place, to.Read-from.Read
	n := 4 * min(a, b, k)
	apart := a - b
	if apart < 0 {
		apart = -apart
	}
	n -= apart
	for ; apart > 0; apart /= 2 {
		n -= 2
	}
	return n
}

func rises(from, to api.Anchor) bool { return from.Place < to.Place && from.Read < to.Read }

func plainOrder(anchors []api.Anchor) []api.Anchor {
	var out []api.Anchor
	for place := range 10001 {
		for _, a := range anchors {
			if a.Place == place && !slices.Contains(out, a) {
				out = append(out, a)
			}
		}
		from := slices.IndexFunc(out, func(a api.Anchor) bool { return a.Place == place })
		if from >= 0 {
			slices.SortFunc(out[from:], func(a, b api.Anchor) int { return a.Read - b.Read })
		}
	}
	return out
}

// plainChain follows P6 word by word, with whole numbers for scores.
func plainChain(anchors []api.Anchor, k int) ([]api.Anchor, float64) {
	l := plainOrder(anchors)
	scores, ahead := make([]int, len(l)), make([]int, len(l))
	end := 0
	for i := range l {
		greatest := math.MinInt
		first := -1
		for j := range i {
			if n := scores[j] + quarters(l[j], l[i], k); rises(l[j], l[i]) && n > greatest {
				greatest, first = n, j
			}
		}
		scores[i], ahead[i] = 4*k, -1
		if greatest > 4*k {
			scores[i], ahead[i] = greatest, first
		}
		if scores[i] > scores[end] {
			end = i
		}
	}
	var chain []api.Anchor
	for i := end; i >= 0; i = ahead[i] {
		chain = slices.Insert(chain, 0, l[i])
	}
	return chain, float64(scores[end]) / 4
}

func drawnAnchors(r *rand.Rand, n, reads, places int) []api.Anchor {
	var out []api.Anchor
	for range n {
		out = append(out, api.Anchor{Read: r.Intn(reads), Place: r.Intn(places)})
	}
	return out
}

func TestChainIsThePlainOne(t *testing.T) {
	r := rand.New(rand.NewSource(7))
	for i := range 2400 {
		k := i%api.MaxK + 1
		size := []int{4, 10, 30, 300}[r.Intn(4)]
		anchors := drawnAnchors(r, 1+r.Intn(30), size, size)
		want, score := plainChain(anchors, k)
		checkChain(t, anchors, k, want, score)
		// the order in which they come does not matter
		r.Shuffle(len(anchors), func(i, j int) { anchors[i], anchors[j] = anchors[j], anchors[i] })
		checkChain(t, anchors, k, want, score)
	}
	for k := 1; k <= api.MaxK; k++ {
		anchors := drawnAnchors(r, api.MaxHits, 300, 10001)
		want, score := plainChain(anchors, k)
		checkChain(t, anchors, k, want, score)
	}
}

// worth is the score of a chain, if it is one.
func worth(chain []api.Anchor, k int) (float64, bool) {
	n := 4 * k
	for i := 1; i < len(chain); i++ {
		if !rises(chain[i-1], chain[i]) {
			return 0, false
		}
		n += quarters(chain[i-1], chain[i], k)
	}
	return float64(n) / 4, true
}

func TestNoChainHasAGreaterScore(t *testing.T) {
	r := rand.New(rand.NewSource(11))
	for i := range 400 {
		k := i%api.MaxK + 1
		anchors := plainOrder(drawnAnchors(r, 9, 25, 25))
		got, score, _ := align.Chain(anchors, k)
		if s, ok := worth(got, k); !ok || s != score {
			t.Fatalf("Chain(%v, %d) = %v, %v: it is worth %v", anchors, k, got, score, s)
		}
		for set := 1; set < 1<<len(anchors); set++ {
			var chain []api.Anchor
			for j, a := range anchors {
				if set>>j&1 == 1 {
					chain = append(chain, a)
				}
			}
			if s, ok := worth(chain, k); ok && s > score {
				t.Fatalf("Chain(%v, %d) = %v, %v, but %v is worth %v", anchors, k, got, score, chain, s)
			}
		}
	}
}

func TestChainWritesIntoNothing(t *testing.T) {
	room := at(8, 19, 3, 13, 3, 13, 0, 10, 77, 77, 77, 77)
	before := slices.Clone(room)
	got, _, _ := align.Chain(room[:4], 4)
	spoil(got, api.Anchor{Read: -1, Place: -1})
	if !slices.Equal(room, before) {
		t.Errorf("what was handed in became %v", room)
	}
}

func TestChainAnswersNewMemory(t *testing.T) {
	anchors := at(0, 10, 3, 13, 8, 19)
	first, _, _ := align.Chain(anchors, 4)
	second, _, _ := align.Chain(anchors, 4)
	spoil(first, api.Anchor{Read: -1, Place: -1})
	if !slices.Equal(second, anchors) {
		t.Errorf("a write into one answer is seen in another: %v", second)
	}
	spoil(anchors, api.Anchor{Read: -1, Place: -1})
	if !slices.Equal(second, at(0, 10, 3, 13, 8, 19)) {
		t.Errorf("a write into what was handed in is seen in the answer: %v", second)
	}
	checkChain(t, at(0, 10, 3, 13, 8, 19), 4, at(0, 10, 3, 13, 8, 19), 10.25)
}

// spoil writes into all room of a list, the spare room too.
func spoil[T any](list []T, with T) {
	list = list[:cap(list)]
	for i := range list {
		list[i] = with
	}
}

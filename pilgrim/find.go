package pilgrim

import (
	"cmp"
	"slices"
	"strconv"
	"strings"
	"unicode"

	"pilgrim/align"
	"pilgrim/api"
	"pilgrim/seq"
)

const bestQuality = 60

// side is a reference, and whether the read is turned there.
type side struct {
	ref  int
	back bool
}

func (s side) compare(t side) int {
	return cmp.Compare(twice(s.ref, s.back), twice(t.ref, t.back))
}

// gatherer gathers the anchors of a read by their sides.
type gatherer struct {
	index   *Index
	length  int // of the read
	count   int
	anchors map[side][]api.Anchor
}

// word counts all anchors, but keeps none of those that are too many: they may be a million.
func (g *gatherer) word(word api.Word) {
	hits := g.index.hits[word.Hash]
	g.count += len(hits)
	if g.count > api.MaxHits {
		return
	}
	for _, hit := range hits {
		g.anchor(word, hit)
	}
}

func (g *gatherer) anchor(word api.Word, hit api.Hit) {
	at := side{ref: hit.Seq, back: word.Back != hit.Back}
	a := api.Anchor{Read: word.Place, Place: hit.Place}
	if at.back {
		a.Read = g.length - g.index.options.K - word.Place
	}
	g.anchors[at] = append(g.anchors[at], a)
}

// anchors are those of a read; none, if they are too many.
func (x *Index) anchors(read string) map[side][]api.Anchor {
	g := gatherer{index: x, length: len(read), anchors: map[side][]api.Anchor{}}
	x.eachWord(read, g.word)
	if g.count > api.MaxHits {
		return nil
	}
	return g.anchors
}

// candidate is the best chain of one side.
type candidate struct {
	at    side
	chain []api.Anchor
	score float64
}

// compare never answers 0 for chains of two sides, so that the order they were made in is not seen.
func (c candidate) compare(d candidate) int {
	return cmp.Or(cmp.Compare(d.score, c.score), c.at.compare(d.at))
}

// candidates are the chains of all sides, the best one first.
func candidates(anchors map[side][]api.Anchor, k int) []candidate {
	list := make([]candidate, 0, len(anchors))
	for at, those := range anchors {
		// no error can be: there are anchors, not too many, and their numbers are places
		chain, score, _ := align.Chain(those, k)
		list = append(list, candidate{at: at, chain: chain, score: score})
	}
	slices.SortFunc(list, candidate.compare)
	return list
}

// find needs no look at reads of fewer bases than K: they have no words.
func (x *Index) find(read api.Seq) (api.Found, bool) {
	if len(read.Bases) > api.MaxRead {
		return api.Found{}, false
	}
	list := candidates(x.anchors(read.Bases), x.options.K)
	if len(list) == 0 || list[0].score < x.options.Score {
		return api.Found{}, false
	}
	other := 0.0
	if len(list) > 1 {
		other = list[1].score
	}
	return x.found(read, list[0], other)
}

// found tells of a read by its best chain; nothing, if the chain spans more than Script takes.
func (x *Index) found(read api.Seq, best candidate, other float64) (api.Found, bool) {
	ref, bases := x.refs[best.at.ref], read.Bases
	if best.at.back {
		bases, _ = seq.Turned(bases)
	}
	first, last := best.chain[0], best.chain[len(best.chain)-1]
	from, to := first.Read, last.Read+x.options.K
	start, end := first.Place, last.Place+x.options.K
	script, same, e := align.Script(bases[from:to], ref.Bases[start:end])
	if e != api.OK {
		return api.Found{}, false
	}
	if best.at.back {
		from, to = len(bases)-to, len(bases)-from
	}
	return api.Found{
		Read: read.Name, From: from, To: to, Back: best.at.back,
		Seq: strings.Clone(ref.Name), Start: start, End: end,
		Score: best.score, Other: other, Quality: quality(best.score, other),
		Script: script, Same: same, Identity: float64(same) / float64(letters(script)),
	}, true
}

// quality is cut, not rounded: only a chain without any other one is of the best.
func quality(score, other float64) int {
	return int((1 - other/score) * bestQuality)
}

// letters counts those of a script, which tells them as runs.
func letters(script string) int {
	all := 0
	for _, run := range strings.FieldsFunc(script, unicode.IsLetter) {
		n, _ := strconv.Atoi(run)
		all += n
	}
	return all
}

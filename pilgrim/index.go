package pilgrim

import (
	"cmp"
	"slices"

	"pilgrim/api"
	"pilgrim/seq"
)

const maxScore = 1000

func optionsMayBe(o api.Options) bool {
	return o.K >= 1 && o.K <= api.MaxK && o.W >= 1 && o.W <= api.MaxW && o.Score >= 0 && o.Score <= maxScore
}

func refsError(refs []api.Seq) api.Errno {
	bases := 0
	for _, ref := range refs {
		bases += len(ref.Bases)
	}
	switch {
	case bases > api.MaxBases:
		return api.ErrLong
	case len(refs) == 0:
		return api.ErrNone
	}
	return api.OK
}

// newIndex needs options and references that were looked at.
func newIndex(refs []api.Seq, o api.Options) *Index {
	x := &Index{options: o, refs: refs, hits: map[int][]api.Hit{}}
	for number, ref := range refs {
		e := enterer{number: number, hits: x.hits}
		x.eachWord(ref.Bases, e.word)
	}
	return x
}

// eachWord hands the words on that stand for the windows of bases.
func (x *Index) eachWord(bases string, step func(word api.Word)) {
	// no error can be: the options may be, and Parse gave the bases
	words, _ := seq.Words(bases, x.options.K, x.options.W)
	for _, word := range words {
		step(word)
	}
}

// enterer enters where the words of one reference stand.
type enterer struct {
	number int // of the reference
	hits   map[int][]api.Hit
}

func (e *enterer) word(word api.Word) {
	hit := api.Hit{Seq: e.number, Place: word.Place, Back: word.Back}
	e.hits[word.Hash] = append(e.hits[word.Hash], hit)
}

// entry is a hash, and where its words stand.
type entry struct {
	hash int
	hits []api.Hit
}

func (e entry) compare(f entry) int {
	return cmp.Compare(e.hash, f.hash)
}

// entries are what the index knows of words, by rising hashes.
func (x *Index) entries() []entry {
	entries := make([]entry, 0, len(x.hits))
	for hash, hits := range x.hits {
		entries = append(entries, entry{hash: hash, hits: hits})
	}
	slices.SortFunc(entries, entry.compare)
	return entries
}

// twice has a number and whether something is back in one number, the latter lowest.
func twice(number int, back bool) int {
	if back {
		return 2*number + 1
	}
	return 2 * number
}

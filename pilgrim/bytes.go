package pilgrim

import (
	"math"
	"slices"

	"pilgrim/api"
	"pilgrim/seq"
)

const mark = "PLGR"

// How many bytes the numbers have.
const (
	optionBytes = 1
	scoreBytes  = 8
	nameBytes   = 1 // of a name's length
	countBytes  = 2
	hashBytes   = 3
	hitBytes    = 2
)

// writer gathers the bytes that tell an index.
type writer struct {
	told []byte
}

func (w *writer) text(text string) {
	w.told = append(w.told, text...)
}

func (w *writer) number(number, size int) {
	w.pattern(uint64(number), size)
}

// pattern has the highest byte first.
func (w *writer) pattern(bits uint64, size int) {
	for size > 0 {
		size--
		w.told = append(w.told, byte(bits>>(8*size)))
	}
}

func (w *writer) options(o api.Options) {
	w.number(o.K, optionBytes)
	w.number(o.W, optionBytes)
	w.pattern(math.Float64bits(o.Score), scoreBytes)
}

func (w *writer) reference(ref api.Seq) {
	w.number(len(ref.Name), nameBytes)
	w.text(ref.Name)
	w.number(len(ref.Bases), countBytes)
	w.text(ref.Bases)
}

func (w *writer) hits(hits []api.Hit) {
	w.number(len(hits), countBytes)
	for _, hit := range hits {
		w.number(hit.Seq, hitBytes)
		w.number(twice(hit.Place, hit.Back), hitBytes)
	}
}

// reader takes what a writer wrote from the front of a text. What is not there is read as nothing: Load finds that out.
type reader struct {
	rest string
}

func (r *reader) text(size int) string {
	size = min(size, len(r.rest))
	text := r.rest[:size]
	r.rest = r.rest[size:]
	return text
}

func (r *reader) number(size int) int {
	return int(r.pattern(size))
}

func (r *reader) pattern(size int) uint64 {
	bits := uint64(0)
	for _, b := range []byte(r.text(size)) {
		bits = bits<<8 | uint64(b)
	}
	return bits
}

func (r *reader) options() api.Options {
	k, w := r.number(optionBytes), r.number(optionBytes)
	return api.Options{K: k, W: w, Score: math.Float64frombits(r.pattern(scoreBytes))}
}

// references are none, if one of them may not be.
func (r *reader) references() []api.Seq {
	var refs []api.Seq
	numbers := map[string]int{} // by names
	for number := range r.number(countBytes) {
		ref, may := r.reference()
		if _, there := numbers[ref.Name]; there || !may {
			return nil
		}
		numbers[ref.Name] = number
		refs = append(refs, ref)
	}
	return refs
}

// reference asks Parse, which knows what names and bases may be, and answers new memory. (Bases that are too many for it are too many for an index.)
func (r *reader) reference() (api.Seq, bool) {
	name := r.text(r.number(nameBytes))
	bases := r.text(r.number(countBytes))
	parsed, _, _ := seq.Parse(">" + name + "\n" + bases)
	if !slices.Equal(parsed, []api.Seq{{Name: name, Bases: bases}}) {
		return api.Seq{}, false
	}
	return parsed[0], true
}

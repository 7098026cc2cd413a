package pilgrim_test

import (
	"math"
	"math/rand"
	"slices"
	"strconv"
	"testing"

	"pilgrim/align"
	"pilgrim/api"
	"pilgrim/pilgrim"
	"pilgrim/seq"
)

// What follows is P8 to P10 word by word, with no thought of time, and with no map.

func list(texts ...string) []api.Seq {
	var out []api.Seq
	for i := 0; i < len(texts); i += 2 {
		out = append(out, api.Seq{Name: texts[i], Bases: texts[i+1]})
	}
	return out
}

func asText(seqs []api.Seq) string {
	text := ""
	for _, s := range seqs {
		text += ">" + s.Name + "\n" + s.Bases + "\n"
	}
	return text
}

type hashed struct {
	hash int
	hit  api.Hit
}

func plainHits(refs []api.Seq, o api.Options) []hashed {
	var out []hashed
	for n, ref := range refs {
		words, _ := seq.Words(ref.Bases, o.K, o.W)
		for _, w := range words {
			out = append(out, hashed{w.Hash, api.Hit{Seq: n, Place: w.Place, Back: w.Back}})
		}
	}
	return out
}

func plainLookup(refs []api.Seq, o api.Options, hash int) []api.Hit {
	var out []api.Hit
	for _, h := range plainHits(refs, o) {
		if h.hash == hash {
			out = append(out, h.hit)
		}
	}
	return out
}

// plainAnchors tells those of the read as it is, and of the read turned, for each reference, and how many all are.
func plainAnchors(refs []api.Seq, o api.Options, read string) (anchors [][2][]api.Anchor, all int) {
	anchors = make([][2][]api.Anchor, len(refs))
	words, _ := seq.Words(read, o.K, o.W)
	hits := plainHits(refs, o)
	for _, w := range words {
		for _, h := range hits {
			if h.hash != w.Hash {
				continue
			}
			all++
			at := &anchors[h.hit.Seq]
			if w.Back == h.hit.Back {
				at[0] = append(at[0], api.Anchor{Read: w.Place, Place: h.hit.Place})
			} else {
				at[1] = append(at[1], api.Anchor{Read: len(read) - o.K - w.Place, Place: h.hit.Place})
			}
		}
	}
	return anchors, all
}

// plainFind tells why a read was not found; nothing, if it was.
func plainFind(refs []api.Seq, o api.Options, read api.Seq) (f api.Found, why string) {
	if len(read.Bases) > 300 {
		return f, "long"
	}
	if len(read.Bases) < o.K {
		return f, "short"
	}
	anchors, all := plainAnchors(refs, o, read.Bases)
	if all > 400 {
		return f, "anchors"
	}
	var best []api.Anchor
	ref := 0
	for n := range refs {
		for side, a := range anchors[n] {
			if len(a) == 0 {
				continue
			}
			chain, score, _ := align.Chain(a, o.K)
			if score > f.Score {
				best, ref = chain, n
				f.Score, f.Other, f.Back = score, f.Score, side == 1
			} else {
				f.Other = max(f.Other, score)
			}
		}
	}
	if best == nil {
		return f, "none"
	}
	if f.Score < o.Score {
		return f, "score"
	}
	bases := read.Bases
	if f.Back {
		bases, _ = seq.Turned(bases)
	}
	f.From, f.To = best[0].Read, best[len(best)-1].Read+o.K
	f.Start, f.End = best[0].Place, best[len(best)-1].Place+o.K
	if f.End-f.Start > 600 {
		return f, "span"
	}
	f.Script, f.Same, _ = align.Script(bases[f.From:f.To], refs[ref].Bases[f.Start:f.End])
	if f.Back {
		f.From, f.To = len(bases)-f.To, len(bases)-f.From
	}
	f.Read, f.Seq = read.Name, refs[ref].Name
	quotient := f.Other / f.Score
	difference := 1 - quotient
	f.Quality = int(math.Trunc(difference * 60))
	f.Identity = float64(f.Same) / float64(len(spelled(f.Script)))
	return f, ""
}

// spelled is a script letter by letter.
func spelled(script string) string {
	out := []byte{}
	for from, i := 0, 0; i < len(script); i++ {
		if script[i] < 'A' {
			continue
		}
		n, _ := strconv.Atoi(script[from:i])
		for range n {
			out = append(out, script[i])
		}
		from = i + 1
	}
	return string(out)
}

func high(number uint64, size int) string {
	out := make([]byte, size)
	for i := size - 1; i >= 0; i-- {
		out[i] = byte(number)
		number /= 256
	}
	return string(out)
}

// plainHead tells what is ahead of the hashes, whether it may be or not.
func plainHead(refs []api.Seq, o api.Options) string {
	text := "PLGR" + high(uint64(o.K), 1) + high(uint64(o.W), 1) + high(math.Float64bits(o.Score), 8)
	body := []byte(text + high(uint64(len(refs)), 2))
	for _, r := range refs {
		body = append(body, high(uint64(len(r.Name)), 1)+r.Name+high(uint64(len(r.Bases)), 2)+r.Bases...)
	}
	return string(body)
}

// plainSave tells options and references, whether they may be or not.
func plainSave(refs []api.Seq, o api.Options) string {
	all := plainHits(refs, o)
	var hashes []int
	for _, h := range all {
		hashes = append(hashes, h.hash)
	}
	slices.Sort(hashes)
	hashes = slices.Compact(hashes)
	text := plainHead(refs, o) + high(uint64(len(hashes)), 2)
	last := 0
	for _, hash := range hashes {
		hits, count := "", 0
		for _, h := range all {
			if h.hash != hash {
				continue
			}
			place := 2 * h.hit.Place
			if h.hit.Back {
				place++
			}
			hits += high(uint64(h.hit.Seq), 2) + high(uint64(place), 2)
			count++
		}
		text += high(uint64(hash-last), 3) + high(uint64(count), 2) + hits
		last = hash
	}
	return text
}

func drawn(r *rand.Rand, letters string, length int) string {
	out := make([]byte, length)
	for i := range out {
		out[i] = letters[r.Intn(len(letters))]
	}
	return string(out)
}

func turned(t *testing.T, bases string) string {
	t.Helper()
	out, e := seq.Turned(bases)
	if e != api.OK {
		t.Fatalf("Turned(%q): %d", bases, e)
	}
	return out
}

func index(t *testing.T, refs []api.Seq, o api.Options) *pilgrim.Index {
	t.Helper()
	x, e, line := pilgrim.New(asText(refs), o)
	if x == nil || e != api.OK || line != 0 {
		t.Fatalf("New(%.60q, %v) = %v, %d, %d", asText(refs), o, x, e, line)
	}
	return x
}

func checkMap(t *testing.T, x *pilgrim.Index, reads []api.Seq, want ...api.Found) {
	t.Helper()
	got, e, line := x.Map(asText(reads))
	if !slices.Equal(got, want) || e != api.OK || line != 0 {
		t.Fatalf("Map(%.600q) = %+v, %d, %d, want %+v", asText(reads), got, e, line, want)
	}
}

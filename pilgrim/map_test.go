package pilgrim_test

import (
	"math"
	"math/rand"
	"strconv"
	"strings"
	"testing"

	"pilgrim/api"
	"pilgrim/pilgrim"
)

// Of five bases no word is the same turned, so that by windows of one word each base behind the first five is worth 1.
var everyWord = api.Options{K: 5, W: 1}

// whole is what is told of a read that is all found, all bases the same, with no other chain.
func whole(seq string, start, length int) api.Found {
	return api.Found{Read: "r", To: length, Seq: seq, Start: start, End: start + length, Score: float64(length), Quality: 60, Script: strconv.Itoa(length) + "M", Same: length, Identity: 1}
}

func TestMapFindsReads(t *testing.T) {
	x := index(t, list("a", some), everyWord)
	checkMap(t, x, list("r", some[5:25]), whole("a", 5, 20))
	checkMap(t, x, list("r", some), whole("a", 0, len(some)))
	back := whole("a", 5, 20)
	back.Back = true
	checkMap(t, x, list("r", turned(t, some[5:25])), back)
	// those that are found are told in the order of the reads
	first, second := whole("a", 30, 10), whole("a", 3, 12)
	first.Read, second.Read = "z", "b"
	checkMap(t, x, list("z", some[30:40], "n", "CCCCCCCCCC", "e", "", "b", some[3:15]), first, second)
	checkMap(t, x, nil)
}

func TestMapTellsTheOutermostWords(t *testing.T) {
	x := index(t, list("a", some), everyWord)
	f := whole("a", 5, 20)
	f.From, f.To = 3, 23
	checkMap(t, x, list("r", "NNN"+some[5:25]+"N"), f)
	// turned, what is ahead of it is behind it, and is told of the read as it was given
	f.Back, f.From, f.To = true, 1, 21
	checkMap(t, x, list("r", "N"+turned(t, some[5:25])+"NNN"), f)
	// a window of more words than one has its outermost word further in: 30 bases, of which the read is from 10 to 25
	x = index(t, list("a", some[:30]), api.Options{K: 5, W: 4})
	found := mapped(t, x, list("r", some[10:25]))[0]
	if found.From < 0 || found.To > 15 || found.Start != 10+found.From || found.End != 10+found.To || strings.Trim(found.Script, "0123456789") != "M" || found.Identity != 1 || found.Quality != 60 || found.Back {
		t.Errorf("Map = %+v", found)
	}
}

func TestMapTellsScripts(t *testing.T) {
	x := index(t, list("a", some), everyWord)
	for _, c := range []struct {
		read   string
		end    int
		score  float64
		script string
		same   int
	}{
		// another base, and any base: five words fewer
		{some[5:15] + "T" + some[16:26], 26, 10 + 5 + 5, "21M", 20},
		{some[5:15] + "N" + some[16:26], 26, 10 + 5 + 5, "21M", 20},
		{some[5:15] + some[17:27], 27, 20 - 0.5 - 1, "10M2D10M", 20},
		{some[5:15] + "AA" + some[15:25], 25, 20 - 0.5 - 1, "10M2I10M", 20},
	} {
		length := len(spelled(c.script))
		f := api.Found{Read: "r", To: len(c.read), Seq: "a", Start: 5, End: c.end, Score: c.score, Quality: 60, Script: c.script, Same: c.same, Identity: float64(c.same) / float64(length)}
		checkMap(t, x, list("r", c.read), f)
		f.Back = true
		checkMap(t, x, list("r", turned(t, c.read)), f)
	}
}

func TestMapOfChainsOfTheSameScore(t *testing.T) {
	piece, even := some[5:25], some[5:15]+turned(t, some[5:15])
	same := whole("b", 0, 20)
	same.Other, same.Quality = 20, 0
	// the first reference, in the order of the text
	checkMap(t, index(t, list("b", piece, "a", piece), everyWord), list("r", piece), same)
	// as it is ahead of turned: these bases are the same turned
	checkMap(t, index(t, list("b", even), everyWord), list("r", even), same)
	checkMap(t, index(t, list("b", piece+"N"+turned(t, piece)), everyWord), list("r", piece), same)
	same.Start, same.End = 21, 41
	checkMap(t, index(t, list("b", turned(t, piece)+"N"+piece), everyWord), list("r", piece), same)
	// but references come ahead of both
	same.Start, same.End, same.Back = 0, 20, true
	checkMap(t, index(t, list("b", turned(t, piece), "a", piece), everyWord), list("r", piece), same)
}

func TestMapTellsOther(t *testing.T) {
	for _, c := range []struct {
		score, other, quality int
	}{
		{10, 0, 60},
		// one less nine tenths is less than a tenth, and this is cut
		{10, 9, 5},
		{10, 5, 30}, {10, 6, 24}, {10, 7, 18}, {10, 8, 11}, {20, 19, 3}, {20, 5, 45}, {20, 6, 42}, {20, 13, 21},
	} {
		read := some[5 : 5+c.score]
		for _, piece := range []string{read[:c.other], turned(t, read[:c.other])} {
			f := whole("b", 0, c.score)
			f.Other, f.Quality = float64(c.other), c.quality
			checkMap(t, index(t, list("a", piece, "b", read), everyWord), list("r", read), f)
			checkMap(t, index(t, list("b", read, "a", piece), everyWord), list("r", read), f)
			// it is the best of all others; in one reference it counts, if it is of the other side
			checkMap(t, index(t, list("a", piece, "b", read, "c", read[:c.other/2]), everyWord), list("r", read), f)
			checkMap(t, index(t, list("a", read[:c.other/2], "b", read, "c", piece), everyWord), list("r", read), f)
		}
		// of the same side it is no other chain
		f := whole("b", 0, c.score)
		checkMap(t, index(t, list("b", read+"N"+read[:c.other]), everyWord), list("r", read), f)
		f.Other, f.Quality = float64(c.other), c.quality
		checkMap(t, index(t, list("b", read+"N"+turned(t, read[:c.other])), everyWord), list("r", read), f)
	}
}

func TestMapBoundsLengths(t *testing.T) {
	r := rand.New(rand.NewSource(9))
	bases := drawn(r, "ACGT", 400)
	x := index(t, list("a", bases), api.Options{K: 11, W: 1})
	checkMap(t, x, list("r", bases[50:50+300]), whole("a", 50, 300))
	checkMap(t, x, list("r", bases[50:50+301]))
	// the bound is of all bases, though only some are found
	f := whole("a", 50, 299)
	f.From, f.To = 1, 300
	checkMap(t, x, list("r", "N"+bases[50:349]), f)
	checkMap(t, x, list("r", "NN"+bases[50:349]))
	checkMap(t, x, list("r", bases[50:50+11]), whole("a", 50, 11))
	checkMap(t, x, list("r", bases[50:50+10]))
	// K is enough for a window of one word alone
	x = index(t, list("a", bases), api.Options{K: 11, W: 2})
	checkMap(t, x, list("r", bases[50:50+11]))
	if found := mapped(t, x, list("r", bases[50:50+12])); found[0].Score != 11 {
		t.Errorf("a window of two words: %+v", found)
	}
}

func TestMapBoundsScores(t *testing.T) {
	read := some[5:15] + some[16:26]
	f := api.Found{Read: "r", To: 20, Seq: "a", Start: 5, End: 26, Score: 19.25, Quality: 60, Script: "10M1D10M", Same: 20, Identity: float64(20) / 21}
	for _, score := range []float64{0, 19, math.Nextafter(19.25, 0), 19.25} {
		checkMap(t, index(t, list("a", some), api.Options{K: 5, W: 1, Score: score}), list("r", read), f)
	}
	for _, score := range []float64{math.Nextafter(19.25, 20), 20, 1000} {
		checkMap(t, index(t, list("a", some), api.Options{K: 5, W: 1, Score: score}), list("r", read))
	}
}

func TestMapBoundsAnchors(t *testing.T) {
	// each of the read's 20 words has 20 hits; all of them have the hash 0
	a := strings.Repeat("A", 24)
	x := index(t, list("a", a), everyWord)
	checkMap(t, x, list("q", a+"A", "r", a, "p", a+"AA"), whole("a", 0, 24))
	// the bound is of all references, and of both sides
	half := strings.Repeat("A", 14)
	other := whole("b", 0, 14)
	other.Other = 14
	other.Quality = 0
	checkMap(t, index(t, list("b", half, "c", half, "d", half, "e", half), everyWord), list("r", half), other)
	checkMap(t, index(t, list("b", half, "c", half, "d", half, "e", half, "f", half[:5]), everyWord), list("r", half))
	checkMap(t, index(t, list("b", half, "c", turned(t, half), "d", half, "e", turned(t, half)), everyWord), list("r", half), other)
	checkMap(t, index(t, list("b", half, "c", turned(t, half), "d", half, "e", turned(t, half)+"T"), everyWord), list("r", half))
	// a read whose first word alone has as many as may be
	x = index(t, list("a", strings.Repeat("A", 404)+"N"+some), everyWord)
	checkMap(t, x, list("q", "AAAAAN"+some[5:25], "p", some[:5]+"NAAAAA", "r", "AAAAAC"), whole("a", 0, 5))
	// and one whose first word has too many, but not all the others
	x = index(t, list("a", strings.Repeat("A", 405)+"N"+some), everyWord)
	checkMap(t, x, list("q", "AAAAAN"+some[5:25], "p", "AAAAAC", "r", some[5:25]), whole("a", 411, 20))
	// as many as can be
	all := strings.Repeat("A", 4000)
	checkMap(t, index(t, list("a", all), everyWord), list("r", all[:300], "q", all[:10], "p", "CCCCCCCCCC"))
}

// spanning has a read of which two halves stand far from one another.
func spanning(between int) (ref, read string) {
	r := rand.New(rand.NewSource(10))
	bases := drawn(r, "ACGT", 300)
	return "ACG" + bases[:150] + strings.Repeat("N", between) + bases[150:] + "CA", bases
}

func TestMapBoundsWhatIsWritten(t *testing.T) {
	o := api.Options{K: 11, W: 1}
	ref, read := spanning(300)
	f := api.Found{Read: "r", To: 300, Seq: "a", Start: 3, End: 603, Score: 300 - 75 - 4.5, Quality: 60, Script: "150M300D150M", Same: 300, Identity: 0.5}
	checkMap(t, index(t, list("a", ref), o), list("r", read), f)
	f.Back = true
	checkMap(t, index(t, list("a", turned(t, ref)), o), list("r", read), backIn(f, len(ref)))
	ref, read = spanning(301)
	checkMap(t, index(t, list("a", ref), o), list("r", read))
	checkMap(t, index(t, list("a", turned(t, ref)), o), list("r", read))
	// no lesser chain takes its part; the reads behind it are found
	checkMap(t, index(t, list("a", ref, "b", read[:150]), o), list("q", read, "r", read[200:250]), whole("a", 3+501, 50))
}

// backIn is what is told, if the reference is turned; the script is one that is the same from both ends.
func backIn(f api.Found, length int) api.Found {
	f.Start, f.End = length-f.End, length-f.Start
	return f
}

func TestMapTellsTheErrorsOfParse(t *testing.T) {
	x := index(t, list("a", some), everyWord)
	for _, c := range []struct {
		reads string
		e     api.Errno
		line  int
	}{
		{"AC", api.ErrLine, 0},
		{"\n", api.ErrLine, 0},
		{">r\n" + some + "\n>", api.ErrName, 2},
		{">r\n" + some + "\n>q\n>r", api.ErrTwice, 3},
		{">r\n" + some + "\n\nx", api.ErrByte, 3},
		{">r\n" + strings.Repeat("A", api.MaxText-2), api.ErrLong, 0},
	} {
		if found, e, line := x.Map(c.reads); found != nil || e != c.e || line != c.line {
			t.Errorf("Map(%.60q) = %v, %d, %d, want %d, %d", c.reads, found, e, line, c.e, c.line)
		}
	}
	if found, e, line := x.Map(""); len(found) != 0 || e != api.OK || line != 0 {
		t.Errorf("Map of nothing = %v, %d, %d", found, e, line)
	}
}

// mistaken is bases of which some have become others, are left out, or have others ahead of them.
func mistaken(r *rand.Rand, bases string, rare int) string {
	out := []byte{}
	for i := range len(bases) {
		switch r.Intn(rare) {
		case 0:
			out = append(out, drawn(r, "ACGTN", 1)...)
		case 1:
		case 2:
			out = append(out, drawn(r, "ACGT", 1+r.Intn(3))...)
			out = append(out, bases[i])
		default:
			out = append(out, bases[i])
		}
	}
	return string(out)
}

// drawnRefs has pieces of some first bases in all references, also turned.
func drawnRefs(t *testing.T, r *rand.Rand) []api.Seq {
	letters := []string{"ACGT", "ACGT", "AC", "ACGTACGTACGTACGTN"}[r.Intn(4)]
	first := drawn(r, letters, 20+r.Intn(500))
	refs := list("0", first)
	for n := range r.Intn(4) {
		from := r.Intn(len(first))
		piece := mistaken(r, first[from:], 4+r.Intn(60))
		if r.Intn(2) == 0 {
			piece = turned(t, piece)
		}
		refs = append(refs, api.Seq{Name: strconv.Itoa(n + 1), Bases: piece + drawn(r, letters, r.Intn(100))})
	}
	return refs
}

// drawnReads are pieces of the references, also two of them side by side.
func drawnReads(t *testing.T, r *rand.Rand, refs []api.Seq) []api.Seq {
	reads := []api.Seq{}
	for n := range 1 + r.Intn(6) {
		bases := ""
		for range 1 + r.Intn(2) {
			from := refs[r.Intn(len(refs))].Bases
			start := r.Intn(len(from) + 1)
			end := min(len(from), start+r.Intn(200))
			piece := mistaken(r, from[start:end], 4+r.Intn(60))
			if r.Intn(2) == 0 {
				piece = turned(t, piece)
			}
			bases += piece
		}
		reads = append(reads, api.Seq{Name: "r" + strconv.Itoa(n), Bases: bases})
	}
	return reads
}

func TestMapIsThePlainOne(t *testing.T) {
	r := rand.New(rand.NewSource(11))
	seen := map[string]int{}
	for range 600 {
		refs := drawnRefs(t, r)
		o := api.Options{K: 1 + r.Intn(api.MaxK), W: 1 + r.Intn(api.MaxW), Score: float64(r.Intn(4*r.Intn(40)+1)) / 4}
		x := index(t, refs, o)
		reads := drawnReads(t, r, refs)
		var want []api.Found
		for _, read := range reads {
			f, why := plainFind(refs, o, read)
			if why == "" {
				want = append(want, f)
				why = kind(f)
			}
			seen[why]++
		}
		checkMap(t, x, reads, want...)
		for _, f := range want {
			checkScript(t, refs, reads, f)
		}
		again, e := pilgrim.Load(x.Save())
		if e != api.OK {
			t.Fatalf("Load of what was saved of %v, %v: %d", refs, o, e)
		}
		checkMap(t, again, reads, want...)
	}
	for _, why := range []string{"long", "short", "anchors", "none", "score", "ahead", "ahead, other", "ahead, same", "back", "back, other", "back, same"} {
		if seen[why] < 5 {
			t.Errorf("%q was drawn %d times: %v", why, seen[why], seen)
		}
	}
}

func kind(f api.Found) string {
	kind := "ahead"
	if f.Back {
		kind = "back"
	}
	if f.Other == f.Score {
		return kind + ", same"
	}
	if f.Other > 0 {
		return kind + ", other"
	}
	return kind
}

func basesOf(seqs []api.Seq, name string) string {
	for _, s := range seqs {
		if s.Name == name {
			return s.Bases
		}
	}
	return ""
}

// checkScript does the script to the bases of the reference: it must end where those of the read end (P11).
func checkScript(t *testing.T, refs, reads []api.Seq, f api.Found) {
	t.Helper()
	read := basesOf(reads, f.Read)[f.From:f.To]
	if f.Back {
		read = turned(t, read)
	}
	ref := basesOf(refs, f.Seq)[f.Start:f.End]
	i, j, same := 0, 0, 0
	for _, letter := range spelled(f.Script) {
		if letter == 'M' && read[i] == ref[j] && read[i] != 'N' {
			same++
		}
		if letter != 'D' {
			i++
		}
		if letter != 'I' {
			j++
		}
	}
	if i != len(read) || j != len(ref) || same != f.Same {
		t.Fatalf("%+v: the script ends at %d of %d and %d of %d, with %d the same", f, i, len(read), j, len(ref), same)
	}
}

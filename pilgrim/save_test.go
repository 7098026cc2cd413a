package pilgrim_test

import (
	"math"
	"math/rand"
	"slices"
	"strconv"
	"strings"
	"testing"

	"pilgrim/api"
	"pilgrim/pilgrim"
)

func checkLoads(t *testing.T, text string) *pilgrim.Index {
	t.Helper()
	x, e := pilgrim.Load(text)
	if x == nil || e != api.OK {
		t.Fatalf("Load(%.300q) = %v, %d", text, x, e)
	}
	if again := x.Save(); again != text {
		t.Fatalf("Load(%.300q) is saved as %.300q", text, again)
	}
	return x
}

func checkRefuses(t *testing.T, text string) {
	t.Helper()
	if x, e := pilgrim.Load(text); x != nil || e != api.ErrBytes {
		t.Errorf("Load(%.300q) = %v, %d, want ErrBytes", text, x, e)
	}
}

const savedScore = "\x3f\xf8\x00\x00\x00\x00\x00\x00" // 1.5

// saved are the references b ACGTT, a with nothing; words of two bases, windows of one word.
const (
	savedHead  = "PLGR\x02\x01" + savedScore
	savedRefs  = "\x00\x02\x01b\x00\x05ACGTT\x01a\x00\x00"
	savedWords = "\x00\x02" + "\x00\x00\x00\x00\x01\x00\x00\x00\x07" + "\x00\x00\x01\x00\x02\x00\x00\x00\x00\x00\x00\x00\x05"
	saved      = savedHead + savedRefs + savedWords
)

func TestSaveTellsAnIndex(t *testing.T) {
	o := api.Options{K: 2, W: 1, Score: 1.5}
	if got := index(t, list("b", "ACGTT", "a", ""), o).Save(); got != saved {
		t.Errorf("Save = %q, want %q", got, saved)
	}
	o = api.Options{K: 12, W: 20, Score: 1000}
	if got, want := index(t, list("a", ""), o).Save(), "PLGR\x0c\x14\x40\x8f\x40\x00\x00\x00\x00\x00\x00\x01\x01a\x00\x00\x00\x00"; got != want {
		t.Errorf("Save = %q, want %q", got, want)
	}
	// a hash of three bytes; hits of two references
	word := "CCCCCCCCCCCC"
	o = api.Options{K: 12, W: 1}
	want := "PLGR\x0c\x01\x00\x00\x00\x00\x00\x00\x00\x00\x00\x02\x03one\x00\x0c" + word + "\x03two\x00\x0c" + "GGGGGGGGGGGG" +
		"\x00\x01" + high(uint64(hashOfCs()), 3) + "\x00\x02" + "\x00\x00\x00\x00" + "\x00\x01\x00\x01"
	if got := index(t, list("one", word, "two", "GGGGGGGGGGGG"), o).Save(); got != want {
		t.Errorf("Save = %q, want %q", got, want)
	}
	// more hits, and greater places, than a byte holds
	want = "PLGR\x01\x01\x00\x00\x00\x00\x00\x00\x00\x00\x00\x01\x01a\x01\x2c" + strings.Repeat("A", 300) + "\x00\x01\x00\x00\x00\x01\x2c"
	for place := range 300 {
		want += "\x00\x00" + high(uint64(2*place), 2)
	}
	if got := index(t, list("a", strings.Repeat("A", 300)), api.Options{K: 1, W: 1}).Save(); got != want {
		t.Errorf("Save = %q, want %q", got, want)
	}
}

// hashOfCs is that of twelve C.
func hashOfCs() int {
	code := 0
	for range 12 {
		code = 4*code + 1
	}
	h := code * 2654435761 % (1 << 24)
	return h ^ h>>12
}

func TestSaveTellsTheSameEachTime(t *testing.T) {
	r := rand.New(rand.NewSource(12))
	refs, o := list("a", drawn(r, "ACGT", 900), "b", drawn(r, "ACGT", 900)), api.Options{K: 6, W: 3}
	x, want := index(t, refs, o), plainSave(refs, o)
	for range 20 {
		if x.Save() != want || index(t, refs, o).Save() != want {
			t.Fatalf("Save is not the same each time")
		}
	}
}

func TestLoadTakesWhatSaveTells(t *testing.T) {
	r := rand.New(rand.NewSource(13))
	for k := 1; k <= api.MaxK; k++ {
		for w := 1; w <= api.MaxW; w++ {
			refs := []api.Seq{}
			for n := range 1 + r.Intn(5) {
				refs = append(refs, api.Seq{Name: strconv.Itoa(n), Bases: drawn(r, "ACGTACGTACGTN", r.Intn(150))})
			}
			o := api.Options{K: k, W: w, Score: 1000 * r.Float64()}
			x, want := index(t, refs, o), plainSave(refs, o)
			if got := x.Save(); got != want {
				t.Fatalf("Save of %v, %v = %q, want %q", refs, o, got, want)
			}
			y := checkLoads(t, want)
			for _, h := range plainHits(refs, o) {
				if got, want := y.Lookup(h.hash), x.Lookup(h.hash); !slices.Equal(got, want) || len(got) == 0 {
					t.Fatalf("Lookup(%d) of a loaded index = %v, want %v", h.hash, got, want)
				}
			}
		}
	}
}

func TestLoadBoundsScore(t *testing.T) {
	o := api.Options{K: 2, W: 1}
	for _, o.Score = range []float64{0, math.Copysign(0, -1), math.SmallestNonzeroFloat64, 0.1, 1e-310, math.Nextafter(1000, 0), 1000} {
		checkLoads(t, plainSave(list("a", "ACGT"), o))
		if got := index(t, list("a", "ACGT"), o).Save(); got != plainSave(list("a", "ACGT"), o) {
			t.Errorf("Save of the score %v = %q", o.Score, got)
		}
	}
	for _, o.Score = range []float64{-math.SmallestNonzeroFloat64, -1, math.Nextafter(1000, 2000), math.MaxFloat64, math.Inf(1), math.Inf(-1), math.NaN(), math.Float64frombits(0x7ff0000000000001), math.Float64frombits(math.MaxUint64)} {
		checkRefuses(t, plainSave(list("a", "ACGT"), o))
	}
}

func TestLoadBoundsOptions(t *testing.T) {
	for n := range 256 {
		for _, bases := range []string{"", some} {
			checkOption(t, list("a", bases), api.Options{K: n, W: 3}, n >= 1 && n <= api.MaxK)
			checkOption(t, list("a", bases), api.Options{K: 3, W: n}, n >= 1 && n <= api.MaxW)
		}
	}
}

func checkOption(t *testing.T, refs []api.Seq, o api.Options, may bool) {
	t.Helper()
	if may {
		checkLoads(t, plainSave(refs, o))
	} else {
		checkRefuses(t, plainSave(refs, o))
	}
}

func TestLoadBoundsReferences(t *testing.T) {
	o := api.Options{K: 3, W: 2}
	checkRefuses(t, plainSave(nil, o))
	longest := strings.Repeat("n", api.MaxName)
	checkLoads(t, plainSave(list("a", some, longest, ""), o))
	checkRefuses(t, plainSave(list("a", some, "n"+longest, ""), o))
	checkRefuses(t, plainSave(list("a", some, "", ""), o))
	checkRefuses(t, plainSave(list("a", "", "b", "", "a", ""), o))
	checkLoads(t, plainSave(list("a", "", "b", "", "A", ""), o))
	bases := strings.Repeat("ACCGTNAT", 500)
	checkLoads(t, plainSave(list("a", bases), o))
	checkLoads(t, plainSave(list("a", bases[:1000], "b", "", "c", bases[1000:]), o))
	checkRefuses(t, plainSave(list("a", bases+"A"), o))
	checkRefuses(t, plainSave(list("a", bases[:1000], "b", "N", "c", bases[1000:]), o))
	checkRefuses(t, plainSave(list("a", strings.Repeat("N", 65535)), o))
	for b := range 256 {
		text := string([]byte{byte(b)})
		checkOption(t, list("x", some, "a"+text, some), o, b >= 33 && b <= 126)
		checkOption(t, list("x", some, text+"a", "AC"), o, b >= 33 && b <= 126)
		for _, bases := range []string{text, text + "AC", "AC" + text + "GT", "ACG" + text} {
			checkOption(t, list("x", some, "a", bases), o, strings.Contains("ACGTN", text))
		}
	}
	// a name or bases that Parse would read as lines
	checkRefuses(t, plainSave(list("a\nACGT", ""), o))
	checkRefuses(t, plainSave(list("a", "\n>b\nACGT"), o))
	checkRefuses(t, plainSave(list("a", ">b"), o))
}

func TestLoadTakesMoreReferencesThanNew(t *testing.T) {
	refs := []api.Seq{}
	for n := range 65535 {
		refs = append(refs, api.Seq{Name: strconv.Itoa(n)})
	}
	refs[65534].Bases = some
	refs[256].Bases = some[5:30]
	o := api.Options{K: 5, W: 1}
	x := checkLoads(t, plainSave(refs, o))
	f := whole("65534", 0, 20)
	checkMap(t, x, list("r", some[:20]), withOther(f, 15))
	// longer names, and more of them, than a text for New can hold
	refs = refs[:2000]
	for n := range refs {
		refs[n] = api.Seq{Name: "reference" + strconv.Itoa(n), Bases: "AC"}
	}
	checkNew(t, asText(refs), o, api.ErrLong, 0)
	checkLoads(t, plainSave(refs, o))
}

func withOther(f api.Found, other float64) api.Found {
	f.Other, f.Quality = other, int((1-other/f.Score)*60)
	return f
}

func TestLoadRefusesOtherHashes(t *testing.T) {
	checkLoads(t, saved)
	head := savedHead + savedRefs
	first, second := "\x00\x00\x00\x00\x01\x00\x00\x00\x07", "\x00\x00\x01\x00\x02\x00\x00\x00\x00\x00\x00\x00\x05"
	for _, words := range []string{
		"", "\x00", "\x00\x00",
		"\x00\x01" + first, "\x00\x01" + second, "\x00\x01" + first + second,
		"\x00\x02" + second + first, "\x00\x02" + first, "\x00\x03" + first + second,
		"\x00\x03" + first + second + "\x00\x00\x01\x00\x00",
		"\x00\x02" + first + "\x00\x00\x01\x00\x02\x00\x00\x00\x05\x00\x00\x00\x00",
		"\x00\x02" + first + "\x00\x00\x01\x00\x02\x00\x00\x00\x00\x00\x00\x00\x04",
		"\x00\x02" + first + "\x00\x00\x01\x00\x02\x00\x00\x00\x00\x00\x01\x00\x05",
		"\x00\x02" + first + "\x00\x00\x01\x00\x01\x00\x00\x00\x00",
		"\x00\x02" + first + "\x00\x00\x02\x00\x02\x00\x00\x00\x00\x00\x00\x00\x05",
		"\x00\x02" + first + second + "\x00", "\x00\x02" + first + second + "\n", "\x00\x02" + first + second + second,
	} {
		checkRefuses(t, head+words)
	}
	for _, mark := range []string{"", "PLG", "plgr", "PLGS", "QLGR", " PLGR"} {
		checkRefuses(t, mark+saved[4:])
	}
	checkRefuses(t, "")
	checkRefuses(t, "PLGR")
	checkRefuses(t, saved+saved)
}

// plainLoad tells whether a text is what Save tells of some index, reading it by P10's words.
func plainLoad(text string) bool {
	if len(text) < 16 || text[:4] != "PLGR" {
		return false
	}
	two := func(at int) int { return int(text[at])*256 + int(text[at+1]) }
	bits := uint64(0)
	for i := 6; i < 14; i++ {
		bits = bits*256 + uint64(text[i])
	}
	o := api.Options{K: int(text[4]), W: int(text[5]), Score: math.Float64frombits(bits)}
	if o.K < 1 || o.K > 12 || o.W < 1 || o.W > 20 || !(o.Score >= 0) || o.Score > 1000 || two(14) == 0 {
		return false
	}
	refs, at, all := []api.Seq{}, 16, 0
	for range two(14) {
		if at >= len(text) {
			return false
		}
		end := at + 1 + int(text[at])
		if end+2 > len(text) || end+2+two(end) > len(text) {
			return false
		}
		ref := api.Seq{Name: text[at+1 : end], Bases: text[end+2 : end+2+two(end)]}
		if ref.Name == "" || len(ref.Name) > 16 || strings.ContainsFunc(ref.Name, func(r rune) bool { return r < 33 || r > 126 }) || strings.Trim(ref.Bases, "ACGTN") != "" || hasName(refs, ref.Name) {
			return false
		}
		refs = append(refs, ref)
		at = end + 2 + len(ref.Bases)
		all += len(ref.Bases)
	}
	return all <= 4000 && plainSave(refs, o) == text
}

func hasName(refs []api.Seq, name string) bool {
	return slices.ContainsFunc(refs, func(s api.Seq) bool { return s.Name == name })
}

func TestLoadOfEachByteChanged(t *testing.T) {
	taken := 0
	for _, refs := range [][]api.Seq{list("b", "ACGTT", "a", ""), list("ab", "", "ac", "N"), list("one", some[:20])} {
		text := plainSave(refs, api.Options{K: 3, W: 2, Score: 1.5})
		checkLoads(t, text)
		for i := range text {
			checkRefuses(t, text[:i])
			checkRefuses(t, text[:i]+text[i+1:])
			checkRefuses(t, text[i+1:])
			for b := range 256 {
				if byte(b) == text[i] {
					continue
				}
				changed := text[:i] + string([]byte{byte(b)}) + text[i+1:]
				if plainLoad(changed) {
					taken++
					checkLoads(t, changed)
				} else {
					checkRefuses(t, changed)
				}
			}
		}
		for b := range 256 {
			checkRefuses(t, text+string([]byte{byte(b)}))
		}
	}
	if taken < 100 {
		t.Errorf("only %d were taken", taken)
	}
}

func TestLoadEndsOnAnyBytes(t *testing.T) {
	r := rand.New(rand.NewSource(14))
	pieces := []string{saved, savedHead, savedRefs, savedWords, "PLGR", "\x00", "\x01", "\xff\xff", "\x01a", "\x00\x05ACGTT", "\x00\x01"}
	for range 20000 {
		text := ""
		for range r.Intn(8) {
			text += pieces[r.Intn(len(pieces))]
		}
		if plainLoad(text) {
			checkLoads(t, text)
		} else {
			checkRefuses(t, text)
		}
	}
}

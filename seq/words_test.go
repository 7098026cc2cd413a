package seq_test

import (
	"math"
	"math/rand"
	"slices"
	"strings"
	"testing"

	"pilgrim/api"
	"pilgrim/seq"
)

func ahead(hash, place int) api.Word { return api.Word{Hash: hash, Place: place} }

func back(hash, place int) api.Word { return api.Word{Hash: hash, Place: place, Back: true} }

func checkWords(t *testing.T, bases string, k, w int, want []api.Word) {
	t.Helper()
	if got, e := seq.Words(bases, k, w); !slices.Equal(got, want) || e != api.OK {
		t.Fatalf("Words(%.80q, %d, %d) = %v, %d, want %v", bases, k, w, got, e, want)
	}
}

func TestWordsStandForTheirWindows(t *testing.T) {
	for _, c := range []struct {
		bases string
		k, w  int
		want  []api.Word
	}{
		{"ACGTT", 2, 1, []api.Word{ahead(1, 0), back(1, 2), back(0, 3)}},
		{"A", 1, 1, []api.Word{ahead(0, 0)}},
		{"T", 1, 1, []api.Word{back(0, 0)}},
		{"C", 1, 1, []api.Word{ahead(1, 0)}},
		{"G", 1, 1, []api.Word{back(1, 0)}},
		// of words with the same hash the first one stands for the window
		{"AAAA", 1, 2, []api.Word{ahead(0, 0), ahead(0, 1), ahead(0, 2)}},
		{"ATC", 1, 2, []api.Word{ahead(0, 0), back(0, 1)}},
		// one word stands for several windows, once
		{"CCACC", 1, 3, []api.Word{ahead(0, 2)}},
		// words that are the same turned are of a window, but stand for none
		{"AT", 2, 1, nil},
		{"ATAT", 2, 3, nil},
		{"CGC", 2, 2, nil},
		{"ATC", 2, 2, []api.Word{back(10, 1)}},
		{"CAT", 2, 2, []api.Word{ahead(5, 0)}},
		// no word goes over N, and no window
		{"ANA", 1, 2, nil},
		{"AANAA", 2, 2, nil},
		{"AANAAA", 2, 2, []api.Word{ahead(0, 3)}},
		{"NACN", 2, 1, []api.Word{ahead(1, 1)}},
		{"NNNN", 1, 1, nil},
		{"ACNAC", 3, 1, nil},
	} {
		checkWords(t, c.bases, c.k, c.w, c.want)
	}
}

func TestWordsNeedsAWholeWindow(t *testing.T) {
	checkWords(t, "", 1, 1, nil)
	checkWords(t, "AC", 3, 1, nil)
	checkWords(t, "AC", 2, 2, nil)
	one := strings.Repeat("A", api.MaxK+api.MaxW-1)
	checkWords(t, one[1:], api.MaxK, api.MaxW, nil)
	checkWords(t, one, api.MaxK, api.MaxW, []api.Word{ahead(0, 0)})
	checkWords(t, one+"A", api.MaxK, api.MaxW, []api.Word{ahead(0, 0), ahead(0, 1)})
}

func TestWordsRefusesWrongInputs(t *testing.T) {
	for _, c := range []struct {
		bases string
		k, w  int
		e     api.Errno
	}{
		{"ACGT", 0, 1, api.ErrOptions}, {"ACGT", -1, 1, api.ErrOptions}, {"ACGT", api.MaxK + 1, 1, api.ErrOptions},
		{"ACGT", 1, 0, api.ErrOptions}, {"ACGT", 1, -1, api.ErrOptions}, {"ACGT", 1, api.MaxW + 1, api.ErrOptions},
		{"ACGT", math.MinInt, 1, api.ErrOptions}, {"ACGT", math.MaxInt, 1, api.ErrOptions},
		{"ACGT", 1, math.MinInt, api.ErrOptions}, {"ACGT", 1, math.MaxInt, api.ErrOptions},
		{"", 0, 0, api.ErrOptions}, {"x", 0, 1, api.ErrOptions}, {"x", 1, 21, api.ErrOptions},
		{"x", 12, 20, api.ErrByte}, {"AAAAx", 1, 1, api.ErrByte}, {"xAAAA", 1, 1, api.ErrByte}, {"NNxNN", 3, 2, api.ErrByte},
	} {
		if got, e := seq.Words(c.bases, c.k, c.w); got != nil || e != c.e {
			t.Errorf("Words(%q, %d, %d) = %v, %d, want %d", c.bases, c.k, c.w, got, e, c.e)
		}
	}
	for b := range 256 {
		if got, e := seq.Words("AC"+string([]byte{byte(b)}), 2, 1); strings.IndexByte("ACGTN", byte(b)) < 0 && (got != nil || e != api.ErrByte) {
			t.Errorf("Words with the byte %d = %v, %d, want ErrByte", b, got, e)
		}
	}
}

// plainCode tells the code of a word; ok, if it is one.
func plainCode(bases string) (code int, ok bool) {
	for _, b := range bases {
		n := strings.IndexRune("ACGT", b)
		if n < 0 {
			return 0, false
		}
		code = code*4 + n
	}
	return code, true
}

// plainWord tells the word at a place: whether it is one, and whether it stands for something.
func plainWord(bases string, k, place int) (word api.Word, is, stands bool) {
	code, is := plainCode(bases[place : place+k])
	if !is {
		return word, false, false
	}
	turned := 0
	for i := place + k - 1; i >= place; i-- {
		turned = turned*4 + 3 - strings.IndexByte("ACGT", bases[i])
	}
	m := 1
	for range 2 * k {
		m *= 2
	}
	h := min(code, turned) * 2654435761 % m
	return api.Word{Hash: h ^ (h >> k), Place: place, Back: turned < code}, true, code != turned
}

// plainWords follows P5 word by word, with no thought of time.
func plainWords(bases string, k, w int) []api.Word {
	var out []api.Word
windows:
	for from := 0; from+w+k-1 <= len(bases); from++ {
		var least api.Word
		found := false
		for place := from; place < from+w; place++ {
			word, is, stands := plainWord(bases, k, place)
			if !is {
				continue windows
			}
			if stands && (!found || word.Hash < least.Hash) {
				least, found = word, true
			}
		}
		if found && !slices.Contains(out, least) {
			out = append(out, least)
		}
	}
	slices.SortFunc(out, func(a, b api.Word) int { return a.Place - b.Place })
	return out
}

func TestWordsOfAllShortBases(t *testing.T) {
	all := []string{""}
	for from := 0; len(all[from]) < 6; from++ {
		for _, b := range []string{"A", "C", "G", "T", "N"} {
			all = append(all, all[from]+b)
		}
	}
	for _, bases := range all {
		for k := 1; k <= 4; k++ {
			for w := 1; w <= 4; w++ {
				checkWords(t, bases, k, w, plainWords(bases, k, w))
			}
		}
	}
}

func TestWordsOfLongBases(t *testing.T) {
	r := rand.New(rand.NewSource(5))
	for _, letters := range []string{"ACGT", "AT", "AC", "AAAAAAAT", "ACGTACGTACGTACGTACGTACGTN", strings.Repeat("ACGT", 20) + "N"} {
		for k := 1; k <= api.MaxK; k++ {
			for w := 1; w <= api.MaxW; w++ {
				bases := make([]byte, 150)
				for i := range bases {
					bases[i] = letters[r.Intn(len(letters))]
				}
				checkWords(t, string(bases), k, w, plainWords(string(bases), k, w))
			}
		}
	}
}

func TestWordsHasNoBound(t *testing.T) {
	n := 400000
	got, e := seq.Words(strings.Repeat("A", n), api.MaxK, api.MaxW)
	if want := n - api.MaxK - api.MaxW + 2; len(got) != want || e != api.OK {
		t.Errorf("Words of %d bases: %d, %d, want %d", n, len(got), e, want)
	}
}

func TestWordsAnswersNewMemory(t *testing.T) {
	want := []api.Word{ahead(1, 0), back(1, 2), back(0, 3)}
	first, _ := seq.Words("ACGTT", 2, 1)
	second, _ := seq.Words("ACGTT", 2, 1)
	spoil(first, back(-1, -1))
	if !slices.Equal(second, want) {
		t.Errorf("a write into one answer is seen in another: %v", second)
	}
	checkWords(t, "ACGTT", 2, 1, want)
}

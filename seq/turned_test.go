package seq_test

import (
	"strings"
	"testing"

	"pilgrim/api"
	"pilgrim/seq"
)

func TestTurnedExchangesAndTurns(t *testing.T) {
	for bases, want := range map[string]string{
		"": "", "A": "T", "C": "G", "G": "C", "T": "A", "N": "N",
		"AACGN": "NCGTT", "ACGT": "ACGT", "AC": "GT", "NNA": "TNN", "GATTACA": "TGTAATC",
	} {
		if got, e := seq.Turned(bases); got != want || e != api.OK {
			t.Errorf("Turned(%q) = %q, %d, want %q", bases, got, e, want)
		}
	}
}

func TestTurnedTakesBasesAlone(t *testing.T) {
	for b := range 256 {
		if strings.IndexByte("ACGTN", byte(b)) >= 0 {
			continue
		}
		for _, bases := range []string{string([]byte{byte(b)}), string([]byte{byte(b), 'A', 'C'}), string([]byte{'A', 'C', byte(b)})} {
			if got, e := seq.Turned(bases); got != "" || e != api.ErrByte {
				t.Errorf("Turned(%q) = %q, %d, want ErrByte", bases, got, e)
			}
		}
	}
}

func TestTurnedHasNoBound(t *testing.T) {
	long := strings.Repeat("ACCN", 100000)
	turned, e := seq.Turned(long)
	if turned != strings.Repeat("NGGT", 100000) || e != api.OK {
		t.Errorf("Turned of %d bases: %d bases, %d", len(long), len(turned), e)
	}
	if back, e := seq.Turned(turned); back != long || e != api.OK {
		t.Errorf("turned twice it is not what it was: %d", e)
	}
}

func TestTurnedAnswersNewMemory(t *testing.T) {
	bases := strings.Repeat("ACGT", 20) // turned it is the same
	if got, _ := seq.Turned(bases); got != bases || shares(got, bases) {
		t.Errorf("Turned(%q) = %q, a piece of what was handed in: %t", bases, got, shares(got, bases))
	}
}

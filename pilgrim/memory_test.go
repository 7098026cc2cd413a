package pilgrim_test

import (
	"slices"
	"strings"
	"testing"
	"unsafe"

	"pilgrim/api"
	"pilgrim/pilgrim"
)

// spoil writes into all room of a list, the spare room too.
func spoil[T any](list []T, with T) {
	list = list[:cap(list)]
	for i := range list {
		list[i] = with
	}
}

// shares tells whether a piece lies in the memory of the whole.
func shares(piece, whole string) bool {
	if piece == "" || whole == "" {
		return false
	}
	at := uintptr(unsafe.Pointer(unsafe.StringData(piece)))
	from := uintptr(unsafe.Pointer(unsafe.StringData(whole)))
	return at >= from && at < from+uintptr(len(whole))
}

// some has no word of five bases twice, also not turned.
const some = "GGATTGGCCGCATCGCTGTGTTATCGTAGTGATTCAATTACTGATG"

func TestAnswersAreNewMemory(t *testing.T) {
	refs := list("one", some, "two", some[3:30]+"NN"+some)
	o := api.Options{K: 5, W: 2}
	x := index(t, refs, o)
	reads := list("r", some[4:40], "q", some[:20])
	hash := 0
	for len(plainLookup(refs, o, hash)) < 3 {
		hash++
	}
	hits, found := x.Lookup(hash), mapped(t, x, reads)
	if want := plainLookup(refs, o, hash); !slices.Equal(hits, want) {
		t.Fatalf("Lookup(%d) = %v, want %v", hash, hits, want)
	}
	kept := slices.Clone(found)
	other := x.Lookup(hash)
	spoil(x.Lookup(hash), api.Hit{Seq: -1, Place: -1})
	spoil(mapped(t, x, reads), api.Found{Read: "x", Script: "x"})
	if !slices.Equal(hits, other) || !slices.Equal(x.Lookup(hash), hits) || !slices.Equal(found, kept) || !slices.Equal(mapped(t, x, reads), kept) {
		t.Errorf("a write into one answer is seen in another one")
	}
	if x.Save() != plainSave(refs, o) {
		t.Errorf("a write into an answer is seen in what is saved")
	}
}

func mapped(t *testing.T, x *pilgrim.Index, reads []api.Seq) []api.Found {
	t.Helper()
	found, e, line := x.Map(asText(reads))
	if e != api.OK || line != 0 || len(found) != len(reads) {
		t.Fatalf("Map(%q) = %v, %d, %d", asText(reads), found, e, line)
	}
	return found
}

func TestTextsAreNotKept(t *testing.T) {
	refs, reads := list("one", some), ">read\n"+some[4:40]
	text := asText(refs)
	x, _, _ := pilgrim.New(text, api.Options{K: 5, W: 2})
	saved := strings.Clone(x.Save())
	y, _ := pilgrim.Load(saved)
	for _, index := range []*pilgrim.Index{x, y} {
		found, _, _ := index.Map(reads)
		again, _, _ := index.Map(reads)
		for i, f := range found {
			if shares(f.Read, reads) || shares(f.Seq, text) || shares(f.Seq, saved) || shares(f.Seq, again[i].Seq) {
				t.Errorf("%+v has a piece of another text", f)
			}
		}
		if len(found) != 1 || shares(index.Save(), saved) {
			t.Errorf("Map = %+v; what is saved is what was loaded: %t", found, shares(index.Save(), saved))
		}
	}
}

// TestTextsAreReadOnce lets the bytes under a text change once the call has answered.
func TestTextsAreReadOnce(t *testing.T) {
	refs := list("one", some, "two", some[7:])
	o := api.Options{K: 5, W: 2, Score: 9}
	want := plainSave(refs, o)
	room := []byte(asText(refs))
	x, _, _ := pilgrim.New(unsafe.String(&room[0], len(room)), o)
	spoil(room, '#')
	bytes := []byte(want)
	y, _ := pilgrim.Load(unsafe.String(&bytes[0], len(bytes)))
	spoil(bytes, '#')
	if x.Save() != want || y.Save() != want {
		t.Errorf("what is saved is %q and %q, want %q", x.Save(), y.Save(), want)
	}
}

func TestIndexesKnowNothingOfOneAnother(t *testing.T) {
	refs, o := list("one", some), api.Options{K: 5, W: 2}
	others, p := list("one", some[9:], "x", some), api.Options{K: 4, W: 1, Score: 900}
	x := index(t, refs, o)
	y := index(t, others, p)
	z, _ := pilgrim.Load(x.Save())
	y.Map(">r\n" + some)
	if x.Save() != plainSave(refs, o) || y.Save() != plainSave(others, p) || z.Save() != x.Save() {
		t.Errorf("an index has become another one")
	}
	if found, _, _ := y.Map(">r\n" + some); found != nil {
		t.Errorf("found by the options of another index: %+v", found)
	}
	mapped(t, x, list("r", some))
	mapped(t, z, list("r", some))
}

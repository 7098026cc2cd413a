package pilgrim_test

import (
	"math"
	"math/rand"
	"slices"
	"strconv"
	"strings"
	"testing"

	"pilgrim/api"
	"pilgrim/pilgrim"
)

func checkNew(t *testing.T, text string, o api.Options, want api.Errno, line int) {
	t.Helper()
	if x, e, n := pilgrim.New(text, o); e != want || n != line || (x != nil) != (e == api.OK) {
		t.Errorf("New(%.40q, %v) = %v, %d, %d, want %d, %d", text, o, x, e, n, want, line)
	}
}

func TestNewBoundsOptions(t *testing.T) {
	for n := -2; n <= 30; n++ {
		ofK, ofW := api.OK, api.OK
		if n < 1 || n > api.MaxK {
			ofK = api.ErrOptions
		}
		if n < 1 || n > api.MaxW {
			ofW = api.ErrOptions
		}
		checkNew(t, ">a\n"+some, api.Options{K: n, W: 3}, ofK, 0)
		checkNew(t, ">a\n"+some, api.Options{K: 3, W: n}, ofW, 0)
	}
	for _, n := range []int{math.MinInt, math.MaxInt, 1<<32 + 3, 256 + 3} {
		checkNew(t, ">a\n"+some, api.Options{K: n, W: 3}, api.ErrOptions, 0)
		checkNew(t, ">a\n"+some, api.Options{K: 3, W: n}, api.ErrOptions, 0)
	}
}

func TestNewBoundsScore(t *testing.T) {
	for _, score := range []float64{0, math.Copysign(0, -1), math.SmallestNonzeroFloat64, 0.1, 1, 999.75, math.Nextafter(1000, 0), 1000} {
		checkNew(t, ">a", api.Options{K: 1, W: 1, Score: score}, api.OK, 0)
	}
	for _, score := range []float64{-math.SmallestNonzeroFloat64, -1, math.Nextafter(1000, 2000), 1001, math.MaxFloat64, -math.MaxFloat64, math.Inf(1), math.Inf(-1), math.NaN(), -math.NaN()} {
		checkNew(t, ">a", api.Options{K: 1, W: 1, Score: score}, api.ErrOptions, 0)
	}
}

func TestNewTellsTheErrorsOfParse(t *testing.T) {
	good, wrong := api.Options{K: 3, W: 2}, api.Options{K: 3}
	for _, c := range []struct {
		text string
		e    api.Errno
		line int
	}{
		{"", api.ErrNone, 0},
		{"AC", api.ErrLine, 0},
		{"\n>a", api.ErrLine, 0},
		{">a\nAC\n>\n", api.ErrName, 2},
		{">a\n\nAC\n>b\n>a\n", api.ErrTwice, 4},
		{">a\nAC\nACx\n", api.ErrByte, 2},
		// named ahead of too many bases
		{">a\n" + strings.Repeat("A", 4001) + "\n>a", api.ErrTwice, 2},
		{">a\n" + strings.Repeat("A", api.MaxText-2), api.ErrLong, 0},
	} {
		checkNew(t, c.text, good, c.e, c.line)
		checkNew(t, c.text, wrong, api.ErrOptions, 0)
	}
}

func TestNewBoundsBases(t *testing.T) {
	o := api.Options{K: 3, W: 2}
	bases := strings.Repeat("ACCGT", 800)
	checkNew(t, ">a\n"+bases, o, api.OK, 0)
	checkNew(t, ">a\n"+bases+"A", o, api.ErrLong, 0)
	checkNew(t, ">a\n"+bases[:3000]+"\n>b\n>c\n"+bases[3000:], o, api.OK, 0)
	checkNew(t, ">a\n"+bases[:3000]+"\n>b\nN\n>c\n"+bases[3000:], o, api.ErrLong, 0)
	checkNew(t, ">a\n>b\n"+bases[:3000]+"\n"+bases[3000:]+"\nN", o, api.ErrLong, 0)
	// no bases, but a sequence
	checkNew(t, ">a", o, api.OK, 0)
}

func TestLookupTellsWhereWordsStand(t *testing.T) {
	x := index(t, list("b", "ACGTT", "a", "", "c", "AACC"), api.Options{K: 2, W: 1})
	for hash, want := range map[int][]api.Hit{
		0:  {{Seq: 0, Place: 3, Back: true}, {Seq: 2, Place: 0}},
		1:  {{Seq: 0, Place: 0}, {Seq: 0, Place: 2, Back: true}, {Seq: 2, Place: 1}},
		4:  {{Seq: 2, Place: 2}},
		2:  nil,
		16: nil, -1: nil, math.MinInt: nil, math.MaxInt: nil, 1 << 32: nil,
	} {
		if got := x.Lookup(hash); !slices.Equal(got, want) {
			t.Errorf("Lookup(%d) = %v, want %v", hash, got, want)
		}
	}
	// no word goes from one reference into the next one
	x = index(t, list("a", "AC", "b", "GT"), api.Options{K: 3, W: 1})
	for hash := range 64 {
		if got := x.Lookup(hash); len(got) > 0 {
			t.Errorf("Lookup(%d) = %v, want none", hash, got)
		}
	}
}

func TestLookupIsThePlainOne(t *testing.T) {
	r := rand.New(rand.NewSource(8))
	for k := 1; k <= 6; k++ {
		for w := 1; w <= api.MaxW; w += 3 {
			refs := []api.Seq{}
			for n := range 1 + r.Intn(4) {
				refs = append(refs, api.Seq{Name: strconv.Itoa(n), Bases: drawn(r, "ACGTACGTACGTN", r.Intn(60))})
			}
			o := api.Options{K: k, W: w}
			x := index(t, refs, o)
			for hash := -1; hash <= 1<<(2*k); hash++ {
				if got, want := x.Lookup(hash), plainLookup(refs, o, hash); !slices.Equal(got, want) {
					t.Fatalf("Lookup(%d) of %v, %v = %v, want %v", hash, refs, o, got, want)
				}
			}
		}
	}
}

package seq_test

import (
	"math/rand"
	"slices"
	"strings"
	"testing"

	"pilgrim/api"
	"pilgrim/seq"
)

type parseCase struct {
	text string
	want []api.Seq
	e    api.Errno
	line int
}

// list makes sequences of names and bases by turns.
func list(texts ...string) []api.Seq {
	var out []api.Seq
	for i := 0; i < len(texts); i += 2 {
		out = append(out, api.Seq{Name: texts[i], Bases: texts[i+1]})
	}
	return out
}

func checkParse(t *testing.T, c parseCase) {
	t.Helper()
	got, e, line := seq.Parse(c.text)
	if !slices.Equal(got, c.want) || e != c.e || line != c.line {
		t.Errorf("Parse(%.60q) = %v, %d, %d, want %v, %d, %d", c.text, got, e, line, c.want, c.e, c.line)
	}
	if e != api.OK && got != nil {
		t.Errorf("Parse(%.60q): an error, and a list that is not nil", c.text)
	}
}

func TestParseReadsSequences(t *testing.T) {
	for _, c := range []parseCase{
		{text: ""},
		{text: ">a\nAC\n\nGT\n>b\n", want: list("a", "ACGT", "b", "")},
		{text: ">a", want: list("a", "")},
		{text: ">a\n", want: list("a", "")},
		{text: ">a\n>b", want: list("a", "", "b", "")},
		{text: ">a\nACGTN", want: list("a", "ACGTN")},
		{text: ">a\nACGTN\n", want: list("a", "ACGTN")},
		{text: ">a\n\n\nA\n\n", want: list("a", "A")},
		{text: ">z\nGG\n>y\nT\nT\n>x\nC", want: list("z", "GG", "y", "TT", "x", "C")},
		{text: ">a\nAAAA\n>b\nC\n>c\nGG", want: list("a", "AAAA", "b", "C", "c", "GG")},
		{text: ">>\nA", want: list(">", "A")},
		{text: ">A\n>a\n>Aa", want: list("A", "", "a", "", "Aa", "")},
	} {
		checkParse(t, c)
	}
}

func TestParseTellsTheFirstWrongLine(t *testing.T) {
	for _, c := range []parseCase{
		{text: "AC", e: api.ErrLine},
		{text: "\n", e: api.ErrLine},
		{text: "\n>a\n", e: api.ErrLine},
		{text: " >a", e: api.ErrLine},
		{text: "acgt", e: api.ErrLine}, // named ahead of ErrByte
		{text: ">", e: api.ErrName},
		{text: ">\n>", e: api.ErrName},
		{text: ">a\nA\n>\n", e: api.ErrName, line: 2},
		{text: ">a b\n", e: api.ErrName},
		{text: ">a\r\nAC\r\n", e: api.ErrName},
		{text: ">a\nAC\r\n", e: api.ErrByte, line: 1},
		{text: ">a\nA\n>b\nC\n>a\n", e: api.ErrTwice, line: 4},
		{text: ">a\n>b\n>b", e: api.ErrTwice, line: 2},
		{text: ">a\n\n\nA>", e: api.ErrByte, line: 3},
		{text: ">a\nx\n>a\n>", e: api.ErrByte, line: 1},
		{text: ">a\n>a\nx\n>", e: api.ErrTwice, line: 1},
		{text: ">a\n>\nx\n>a", e: api.ErrName, line: 1},
	} {
		checkParse(t, c)
	}
}

func TestParseTakesTextsOfMaxText(t *testing.T) {
	bases := strings.Repeat("G", api.MaxText-3)
	checkParse(t, parseCase{text: ">a\n" + bases, want: list("a", bases)})
	checkParse(t, parseCase{text: ">a\n" + strings.Repeat("\n", api.MaxText-3), want: list("a", "")})
	checkParse(t, parseCase{text: ">a" + strings.Repeat("\n", api.MaxText-3) + "x", e: api.ErrByte, line: api.MaxText - 3})
	checkParse(t, parseCase{text: ">a\n" + bases + "G", e: api.ErrLong})
	checkParse(t, parseCase{text: ">a\n" + bases + "\n", e: api.ErrLong})
	checkParse(t, parseCase{text: strings.Repeat("x", api.MaxText+1), e: api.ErrLong})
	checkParse(t, parseCase{text: ">a\n>a" + strings.Repeat("\n", api.MaxText), e: api.ErrLong})
}

func TestParseBoundsNames(t *testing.T) {
	longest := strings.Repeat("n", api.MaxName)
	checkParse(t, parseCase{text: ">" + longest, want: list(longest, "")})
	checkParse(t, parseCase{text: ">" + longest + "n", e: api.ErrName})
	for b := range 256 {
		name := string([]byte{'a', byte(b)})
		c := parseCase{text: ">b\n>" + name + "\nA", e: api.ErrName, line: 1}
		if b == '\n' {
			c = parseCase{text: c.text, want: list("b", "", "a", "A")}
		} else if b >= 33 && b <= 126 {
			c = parseCase{text: c.text, want: list("b", "", name, "A")}
		}
		checkParse(t, c)
	}
}

func TestParseTakesBasesAlone(t *testing.T) {
	for b := range 256 {
		line := string([]byte{'C', byte(b), 'G'})
		c := parseCase{text: ">a\n" + line, e: api.ErrByte, line: 1}
		if b == '\n' {
			c = parseCase{text: c.text, want: list("a", "CG")}
		} else if strings.IndexByte("ACGTN", byte(b)) >= 0 {
			c = parseCase{text: c.text, want: list("a", line)}
		}
		checkParse(t, c)
	}
}

// plainParse follows P3 word by word, with no thought of time.
func plainParse(text string) parseCase {
	lines := strings.Split(text, "\n")
	if lines[len(lines)-1] == "" {
		lines = lines[:len(lines)-1]
	}
	var seqs []api.Seq
	for n, line := range lines {
		if line != "" && line[0] == '>' {
			name := line[1:]
			if name == "" || len(name) > 16 || strings.ContainsFunc(name, func(r rune) bool { return r < 33 || r > 126 }) {
				return parseCase{text: text, e: api.ErrName, line: n}
			}
			if slices.ContainsFunc(seqs, func(s api.Seq) bool { return s.Name == name }) {
				return parseCase{text: text, e: api.ErrTwice, line: n}
			}
			seqs = append(seqs, api.Seq{Name: name})
			continue
		}
		if len(seqs) == 0 {
			return parseCase{text: text, e: api.ErrLine, line: n}
		}
		if strings.Trim(line, "ACGTN") != "" {
			return parseCase{text: text, e: api.ErrByte, line: n}
		}
		seqs[len(seqs)-1].Bases += line
	}
	return parseCase{text: text, want: seqs}
}

func TestParseIsThePlainOne(t *testing.T) {
	r := rand.New(rand.NewSource(3))
	pieces := []string{">", "\n", "\n", "A", "GT", "N\n", "\n>a", "\n>b\n", "\n>ab\n", "\n>bb", "x", " ", "\n>0123456789abcde"}
	for range 20000 {
		text := ">a\n"
		if r.Intn(8) == 0 {
			text = ""
		}
		for range r.Intn(9) {
			text += pieces[r.Intn(len(pieces))]
		}
		checkParse(t, plainParse(text))
	}
}

func TestParseAnswersNewMemory(t *testing.T) {
	text := ">one\nACGT\n>two\nGG\nTT\n>three\n"
	want := list("one", "ACGT", "two", "GGTT", "three", "")
	first, _, _ := seq.Parse(text)
	second, _, _ := seq.Parse(text)
	spoil(first, api.Seq{Name: "x", Bases: "x"})
	if !slices.Equal(second, want) {
		t.Errorf("a write into one answer is seen in another: %v", second)
	}
	for _, s := range second {
		if shares(s.Name, text) || shares(s.Bases, text) {
			t.Errorf("%v is a piece of the text", s)
		}
	}
}

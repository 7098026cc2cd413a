package seq

import (
	"strings"

	"pilgrim/api"
	"pilgrim/base"
)

// eachLine hands the lines on, and tells the error and the number of the first one that is wrong.
func eachLine(text string, step func(line string) api.Errno) (api.Errno, int) {
	for n := 0; text != ""; n++ {
		line, rest, _ := strings.Cut(text, "\n")
		if e := step(line); e != api.OK {
			return e, n
		}
		text = rest
	}
	return api.OK, 0
}

// parser holds the sequences that were begun; the bases of the last one are gathered apart, since each line may add some.
type parser struct {
	seqs  []api.Seq
	names map[string]int // the numbers of the sequences
	bases []byte
}

func (p *parser) line(line string) api.Errno {
	if name, begins := strings.CutPrefix(line, ">"); begins {
		return p.begin(name)
	}
	if len(p.seqs) == 0 {
		return api.ErrLine
	}
	return base.Each(line, p.base)
}

func (p *parser) begin(name string) api.Errno {
	if !nameMayBe(name) {
		return api.ErrName
	}
	if _, there := p.names[name]; there {
		return api.ErrTwice
	}
	p.finish()
	p.names[name] = len(p.seqs)
	// a piece of the text would keep the whole text in memory
	p.seqs = append(p.seqs, api.Seq{Name: strings.Clone(name)})
	return api.OK
}

func (p *parser) base(place, number int) {
	p.bases = append(p.bases, base.Letters[number])
}

// finish gives the sequence that was begun last its bases.
func (p *parser) finish() {
	if len(p.seqs) == 0 {
		return
	}
	p.seqs[len(p.seqs)-1].Bases = string(p.bases)
	p.bases = p.bases[:0]
}

func nameMayBe(name string) bool {
	if len(name) < 1 || len(name) > api.MaxName {
		return false
	}
	for i := range len(name) {
		if name[i] < 33 || name[i] > 126 {
			return false
		}
	}
	return true
}

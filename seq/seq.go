// Package seq: sequences and their words: see DOC.md.
package seq

import (
	"pilgrim/api"
	"pilgrim/base"
)

// Parse reads a text of sequences (P3).
func Parse(text string) ([]api.Seq, api.Errno, int) {
	if len(text) > api.MaxText {
		return nil, api.ErrLong, 0
	}
	p := parser{names: map[string]int{}}
	if e, n := eachLine(text, p.line); e != api.OK {
		return nil, e, n
	}
	p.finish()
	return p.seqs, api.OK, 0
}

// Turned is bases read from the other side (P4).
func Turned(bases string) (string, api.Errno) {
	t := turner{turned: make([]byte, len(bases))}
	if e := base.Each(bases, t.base); e != api.OK {
		return "", e
	}
	return string(t.turned), api.OK
}

// Words are the words that stand for their windows (P5).
func Words(bases string, k int, w int) ([]api.Word, api.Errno) {
	if k < 1 || k > api.MaxK || w < 1 || w > api.MaxW {
		return nil, api.ErrOptions
	}
	p := picker{k: k, w: w}
	s := scanner{k: k, each: p.word}
	if e := base.Each(bases, s.base); e != api.OK {
		return nil, e
	}
	return p.picked, api.OK
}

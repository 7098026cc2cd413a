package align

import (
	"cmp"
	"slices"
	"strconv"

	"pilgrim/base"
)

// The letters of a script, by their rank among scripts that cost the same.
const (
	both = iota
	readAlone
	refAlone
)

const scriptLetters = "MID"

const (
	otherCost  = 4 // of a pair of bases that are not the same
	runCost    = 4 // of a run of I or D
	letterCost = 2 // of each letter of such a run
	never      = 1 << 20
)

// cell has what the cheapest scripts cost that lead to a place of both texts, by the letter that they end with.
type cell [3]int

// choice is one of these letters, and what the script costs with it.
type choice struct {
	letter, cost int
}

func (c choice) compare(d choice) int {
	return cmp.Compare(c.cost, d.cost)
}

// ahead chooses the letter that a script ends with, if it is to go on with the one given; the run that this one begins is paid for here.
func (c cell) ahead(next int) choice {
	var choices [len(c)]choice
	for letter, cost := range c {
		if next != both && next != letter {
			cost += runCost
		}
		choices[letter] = choice{letter: letter, cost: cost}
	}
	return slices.MinFunc(choices[:], choice.compare)
}

// grid has a row of cells for each place of the read, and in it a cell for each place of the reference.
type grid struct {
	read, ref []int // the numbers of the bases
	rows      [][]cell
}

// newGrid has the cell of the beginning alone: what follows it begins its run there, as behind M.
func newGrid(width int) *grid {
	first := make([]cell, 1, width+1)
	first[0] = cell{both: 0, readAlone: never, refAlone: never}
	return &grid{rows: [][]cell{first}}
}

// column lengthens the first row by a base of the reference.
func (g *grid) column(place, number int) {
	g.ref = append(g.ref, number)
	g.rows[0] = append(g.rows[0], cell{both: never, readAlone: never, refAlone: g.rows[0][place].ahead(refAlone).cost + letterCost})
}

// row adds the row of a base of the read.
func (g *grid) row(place, number int) {
	g.read = append(g.read, number)
	above := g.rows[place]
	row := make([]cell, len(above))
	row[0] = cell{both: never, readAlone: above[0].ahead(readAlone).cost + letterCost, refAlone: never}
	for j, other := range g.ref {
		row[j+1] = cell{
			both:      above[j].ahead(both).cost + pairCost(number, other),
			readAlone: above[j+1].ahead(readAlone).cost + letterCost,
			refAlone:  row[j].ahead(refAlone).cost + letterCost,
		}
	}
	g.rows = append(g.rows, row)
}

func pairCost(number, other int) int {
	if same(number, other) {
		return 0
	}
	return otherCost
}

func same(number, other int) bool {
	return number == other && number != base.Any
}

// script goes from the end to the beginning, since it is there that scripts that cost the same are told apart.
func (g *grid) script() ([]int, int) {
	var letters []int
	pairs := 0
	i, j := len(g.read), len(g.ref)
	// behind the end no run is begun, as none is with M
	for next := both; i > 0 || j > 0; {
		next = g.rows[i][j].ahead(next).letter
		letters = append(letters, next)
		if next != refAlone {
			i--
		}
		if next != readAlone {
			j--
		}
		if next == both && same(g.read[i], g.ref[j]) {
			pairs++
		}
	}
	slices.Reverse(letters)
	return letters, pairs
}

// runs tells letters as numbers and letters.
func runs(letters []int) string {
	var told []byte
	for from, i := 0, 1; i <= len(letters); i++ {
		if i < len(letters) && letters[i] == letters[from] {
			continue
		}
		told = strconv.AppendInt(told, int64(i-from), 10)
		told = append(told, scriptLetters[letters[from]])
		from = i
	}
	return string(told)
}

package align_test

import (
	"math/rand"
	"strings"
	"testing"

	"pilgrim/align"
	"pilgrim/api"
)

func checkScript(t *testing.T, read, ref, want string, same int) {
	t.Helper()
	got, n, e := align.Script(read, ref)
	if got != want || n != same || e != api.OK {
		t.Fatalf("Script(%.700q, %.700q) = %q, %d, %d, want %q, %d", read, ref, got, n, e, want, same)
	}
}

func TestScriptTellsHowRefBecomesRead(t *testing.T) {
	for _, c := range []struct {
		read, ref, want string
		same            int
	}{
		{"ACGT", "ACGT", "4M", 4}, {"ACT", "ACGT", "2M1D1M", 3}, {"ACGT", "ACT", "2M1I1M", 3},
		// another base costs 4, a gap 6 or more
		{"A", "C", "1M", 0}, {"ACGT", "AGGT", "4M", 3}, {"AAAA", "CCCC", "4M", 0},
		// N is the same as nothing
		{"N", "N", "1M", 0}, {"N", "A", "1M", 0}, {"ANA", "ANA", "3M", 2}, {"ANGT", "ACGN", "4M", 2},
		// one run of two is cheaper than two runs
		{"GATC", "GAATTC", "2M2D2M", 4}, {"ACCA", "AGCCGA", "1M2D3M", 3},
		// numbers of several digits
		{strings.Repeat("AC", 60), strings.Repeat("AC", 60), "120M", 120},
		{strings.Repeat("C", 12) + strings.Repeat("A", 10), strings.Repeat("C", 12) + strings.Repeat("G", 11) + strings.Repeat("A", 10), "12M11D10M", 22},
		// a run of each, where six bases would not be the same
		{"AACCCCCCTGT", "AATGTCCCCCC", "2M3D6M3I", 8}, {"AATGTCCCCCC", "AACCCCCCTGT", "2M3I6M3D", 8},
		{"NNNNNNNN", "ACGTACGT", "8M", 0},
	} {
		checkScript(t, c.read, c.ref, c.want, c.same)
	}
}

func TestScriptOfThoseThatCostTheSame(t *testing.T) {
	// the gap as far ahead as can be, since M is first at the end
	checkScript(t, "A", "AA", "1D1M", 1)
	checkScript(t, "AA", "A", "1I1M", 1)
	checkScript(t, "CAAT", "CAAAAT", "1M2D3M", 4)
	checkScript(t, "CAAAAT", "CAAT", "1M2I3M", 4)
	checkScript(t, "AC", "A", "1M1I", 1)
	// four bases that are not the same cost as much as a run of each
	checkScript(t, "AACCCCCCTG", "AATGCCCCCC", "10M", 6)
	// a run of I at the end is ahead of one of D
	checkScript(t, "ACACAC", "CACACA", "1D5M1I", 5)
	checkScript(t, "CACACA", "ACACAC", "1D5M1I", 5)
}

func TestScriptOfNothing(t *testing.T) {
	checkScript(t, "", "", "", 0)
	checkScript(t, "", "AC", "2D", 0)
	checkScript(t, "ACG", "", "3I", 0)
	checkScript(t, "N", "", "1I", 0)
}

func TestScriptBounds(t *testing.T) {
	read, ref := strings.Repeat("A", api.MaxRead), strings.Repeat("A", 2*api.MaxRead)
	checkScript(t, read, ref, "300D300M", 300)
	checkScript(t, read, "", "300I", 0)
	checkScript(t, "", ref, "600D", 0)
	checkScript(t, strings.Repeat("C", api.MaxRead), ref, "300D300M", 0)
}

func TestScriptRefusesWrongInputs(t *testing.T) {
	long, longer := strings.Repeat("A", api.MaxRead+1), strings.Repeat("A", 2*api.MaxRead+1)
	for _, c := range []struct {
		read, ref string
		e         api.Errno
	}{
		{long, "", api.ErrLong}, {"", longer, api.ErrLong}, {long, longer, api.ErrLong},
		{long, "x", api.ErrLong}, {"x", longer, api.ErrLong}, {strings.Repeat("x", 301), "", api.ErrLong}, {"", strings.Repeat("x", 601), api.ErrLong},
		{"x", "", api.ErrByte}, {"", "x", api.ErrByte}, {"ACGTx", "ACGT", api.ErrByte}, {"ACGT", "xACGT", api.ErrByte}, {"a", "A", api.ErrByte}, {"A\n", "A", api.ErrByte},
	} {
		if got, n, e := align.Script(c.read, c.ref); got != "" || n != 0 || e != c.e {
			t.Errorf("Script(%.20q, %.20q) = %q, %d, %d, want %d", c.read, c.ref, got, n, e, c.e)
		}
	}
}

func TestScriptTakesBasesAlone(t *testing.T) {
	for b := range 256 {
		bases := string([]byte{'A', byte(b), 'C'})
		want := api.ErrByte
		if strings.IndexByte("ACGTN", byte(b)) >= 0 {
			want = api.OK
		}
		_, _, e := align.Script(bases, "AGC")
		if _, _, f := align.Script("AGC", bases); e != want || f != want {
			t.Errorf("the byte %d: %d in read, %d in ref, want %d", b, e, f, want)
		}
	}
}

// spelt writes the runs of a script out; ok, if they are told as P7 says.
func spelt(script string) (letters string, ok bool) {
	n := 0
	for i := range len(script) {
		b := script[i]
		if b >= '0' && b <= '9' {
			if b == '0' && n == 0 {
				return "", false
			}
			n = 10*n + int(b-'0')
			continue
		}
		if n == 0 || strings.IndexByte("MID", b) < 0 || strings.HasSuffix(letters, string(b)) {
			return "", false
		}
		letters += strings.Repeat(string(b), n)
		n = 0
	}
	return letters, n == 0
}

func isSame(a, b byte) bool { return a == b && a != 'N' }

// plainCost tells what letters cost and how many bases are the same; ok, if they lead to both ends.
func plainCost(letters, read, ref string) (cost, same int, ok bool) {
	last := byte('M')
	for i := range len(letters) {
		x := letters[i]
		if x != 'D' && read == "" || x != 'I' && ref == "" {
			return 0, 0, false
		}
		switch {
		case x != 'M':
			cost += 2
			if x != last {
				cost += 4
			}
		case isSame(read[0], ref[0]):
			same++
		default:
			cost += 4
		}
		if x != 'D' {
			read = read[1:]
		}
		if x != 'I' {
			ref = ref[1:]
		}
		last = x
	}
	return cost, same, read == "" && ref == ""
}

// firstFromEnd tells whether a is ahead of b: at the first difference from the end it has M, or else I.
func firstFromEnd(a, b string) bool {
	for a != "" && b != "" {
		x, y := strings.IndexByte("MID", a[len(a)-1]), strings.IndexByte("MID", b[len(b)-1])
		if x != y {
			return x < y
		}
		a, b = a[:len(a)-1], b[:len(b)-1]
	}
	return false
}

// allScripts hands on the letters of every script of so many bases.
func allScripts(letters string, reads, refs int, step func(letters string)) {
	if reads == 0 && refs == 0 {
		step(letters)
	}
	if reads > 0 && refs > 0 {
		allScripts(letters+"M", reads-1, refs-1, step)
	}
	if reads > 0 {
		allScripts(letters+"I", reads-1, refs, step)
	}
	if refs > 0 {
		allScripts(letters+"D", reads, refs-1, step)
	}
}

// plainScript follows P7 word by word: of all scripts the cheapest, of these the first from the end.
func plainScript(read, ref string) (letters string, cost int) {
	cost = -1
	allScripts("", len(read), len(ref), func(l string) {
		c, _, _ := plainCost(l, read, ref)
		if cost < 0 || c < cost || c == cost && firstFromEnd(l, letters) {
			letters, cost = l, c
		}
	})
	return letters, cost
}

// checkLetters holds an answer against the letters that it should be told of.
func checkLetters(t *testing.T, read, ref, want string) {
	t.Helper()
	got, n, e := align.Script(read, ref)
	letters, ok := spelt(got)
	_, same, _ := plainCost(want, read, ref)
	if !ok || letters != want || n != same || e != api.OK {
		t.Fatalf("Script(%q, %q) = %q, %d, %d, want %q, %d", read, ref, got, n, e, want, same)
	}
}

func TestScriptOfAllShortBases(t *testing.T) {
	all := []string{""}
	for from := 0; len(all[from]) < 4; from++ {
		for _, b := range []string{"A", "C", "N"} {
			all = append(all, all[from]+b)
		}
	}
	for _, read := range all {
		for _, ref := range all {
			want, _ := plainScript(read, ref)
			checkLetters(t, read, ref, want)
		}
	}
}

func drawnBases(r *rand.Rand, letters string, n int) string {
	out := make([]byte, n)
	for i := range out {
		out[i] = letters[r.Intn(len(letters))]
	}
	return string(out)
}

func TestScriptIsThePlainOne(t *testing.T) {
	r := rand.New(rand.NewSource(13))
	for i := range 300 {
		letters := []string{"AC", "ACGT", "AAAC", "ACGTN"}[i%4]
		read, ref := drawnBases(r, letters, r.Intn(8)), drawnBases(r, letters, r.Intn(8))
		want, _ := plainScript(read, ref)
		checkLetters(t, read, ref, want)
	}
}

// told is the cheapest script that ends with a letter, and the first of these from the end.
type told struct {
	letters string
	cost    int
	is      bool
}

// cheaper keeps one of two scripts.
func (a told) cheaper(b told) told {
	if !a.is || b.is && (b.cost < a.cost || b.cost == a.cost && firstFromEnd(b.letters, a.letters)) {
		return b
	}
	return a
}

// longScript is plainScript for longer bases: it keeps the letters of one script for each place of both and each last letter.
func longScript(read, ref string) told {
	rows := make([][][3]told, len(read)+1)
	for i := range rows {
		rows[i] = make([][3]told, len(ref)+1)
		for j := range rows[i] {
			if i == 0 && j == 0 {
				rows[0][0][0] = told{is: true}
				continue
			}
			for x, step := range [][2]int{{1, 1}, {1, 0}, {0, 1}} {
				if i < step[0] || j < step[1] {
					continue
				}
				for last, a := range rows[i-step[0]][j-step[1]] {
					switch {
					case x != 0 && x == last:
						a.cost += 2
					case x != 0:
						a.cost += 6
					case !isSame(read[i-1], ref[j-1]):
						a.cost += 4
					}
					a.letters += "MID"[x : x+1]
					rows[i][j][x] = rows[i][j][x].cheaper(a)
				}
			}
		}
	}
	end := rows[len(read)][len(ref)]
	return end[0].cheaper(end[1]).cheaper(end[2])
}

// mistaken draws a read that bases become by mistakes.
func mistaken(r *rand.Rand, bases string) string {
	var out strings.Builder
	for i := range len(bases) {
		switch r.Intn(12) {
		case 0:
			out.WriteString(drawnBases(r, "ACGTN", 1+r.Intn(4)))
		case 1, 2:
			continue
		case 3:
			out.WriteString(drawnBases(r, "ACGT", 1))
			continue
		}
		out.WriteByte(bases[i])
	}
	return out.String()
}

func TestScriptOfLongBases(t *testing.T) {
	r := rand.New(rand.NewSource(17))
	for i := range 150 {
		letters := []string{"ACGT", "AC", "AAAAAC", "ACGTN"}[i%4]
		ref := drawnBases(r, letters, r.Intn(45))
		read := mistaken(r, ref)
		if i%3 == 0 {
			read = drawnBases(r, letters, r.Intn(30))
		}
		want := longScript(read, ref)
		checkLetters(t, read, ref, want.letters)
	}
}

// done does a script to the bases of ref; those of read alone are taken from read.
func done(letters, read, ref string) string {
	var out strings.Builder
	i, j := 0, 0
	for _, x := range letters {
		switch x {
		case 'I':
			out.WriteByte(read[i])
			i++
		case 'D':
			j++
		case 'M':
			if isSame(read[i], ref[j]) {
				out.WriteByte(ref[j])
			} else {
				out.WriteByte(read[i])
			}
			i, j = i+1, j+1
		}
	}
	return out.String()
}

// leastCost is what the cheapest script costs, found from the ends on, with no letters kept.
func leastCost(read, ref string) int {
	const far = 1 << 30
	below := make([][3]int, len(ref)+1) // by the letter ahead
	for i := len(read); i >= 0; i-- {
		row := make([][3]int, len(ref)+1)
		for j := len(ref); j >= 0; j-- {
			for last := range 3 {
				least := far
				if i == len(read) && j == len(ref) {
					least = 0
				}
				if i < len(read) && j < len(ref) {
					c := 4
					if isSame(read[i], ref[j]) {
						c = 0
					}
					least = min(least, c+below[j+1][0])
				}
				gap := [3]int{0, 6, 6}
				gap[last] = 2
				if i < len(read) {
					least = min(least, gap[1]+below[j][1])
				}
				if j < len(ref) {
					least = min(least, gap[2]+row[j+1][2])
				}
				row[j][last] = least
			}
		}
		below = row
	}
	return below[0][0]
}

func TestNoScriptCostsLess(t *testing.T) {
	r := rand.New(rand.NewSource(19))
	for i := range 40 {
		letters := []string{"ACGT", "AC", "ACGTN"}[i%3]
		ref := drawnBases(r, letters, r.Intn(2*api.MaxRead+1))
		read := mistaken(r, ref)
		if i%4 == 0 {
			read = drawnBases(r, letters, r.Intn(api.MaxRead+1))
		}
		read = read[:min(len(read), api.MaxRead)]
		got, n, e := align.Script(read, ref)
		spelled, ok := spelt(got)
		cost, same, whole := plainCost(spelled, read, ref)
		if e != api.OK || !ok || !whole || same != n {
			t.Fatalf("Script(%q, %q) = %q, %d, %d: %d are the same", read, ref, got, n, e, same)
		}
		if want := leastCost(read, ref); cost != want {
			t.Errorf("Script(%q, %q) = %q: it costs %d, want %d", read, ref, got, cost, want)
		}
		if done(spelled, read, ref) != read {
			t.Errorf("Script(%q, %q) = %q: ref does not become read", read, ref, got)
		}
	}
}

func TestScriptKeepsNothing(t *testing.T) {
	checkScript(t, "ACT", "ACGT", "2M1D1M", 3)
	checkScript(t, "", "", "", 0)
	checkScript(t, "ACT", "ACGT", "2M1D1M", 3)
}

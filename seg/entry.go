package seg

import (
	"strconv"
	"strings"

	"landau/api"
	"landau/num"
	"landau/rec"
)

// The signs with which lines begin.
const (
	signPut  = "p"
	signSeal = "s"
	signCut  = "c"
	signTrim = "t"
)

// entry is what a line tells: its sign, a position or an epoch, and the record of a put.
type entry struct {
	sign string
	n    int
	rec  rec.Record
}

// text writes an entry down in one line.
func (e entry) text() string {
	line := e.sign + " " + strconv.Itoa(e.n)
	if e.sign == signPut {
		line += " " + rec.Text(e.rec)
	}
	return line
}

// parse reads what text writes, and nothing else; false: it is no such line.
func parse(line string) (entry, bool) {
	sign, rest, _ := strings.Cut(line, " ")
	switch sign {
	case signPut:
		return parsePut(rest)
	case signSeal, signCut, signTrim:
		return parseNumber(sign, rest)
	}
	return entry{}, false
}

// parsePut reads what a put has behind its sign.
func parsePut(rest string) (entry, bool) {
	word, text, _ := strings.Cut(rest, " ")
	pos, ok := num.Parse(word)
	r, e := rec.Parse(text)
	if !ok || e != api.OK {
		return entry{}, false
	}
	return entry{sign: signPut, n: pos, rec: r}, true
}

// parseNumber reads what the other entries have behind their signs.
func parseNumber(sign, rest string) (entry, bool) {
	n, ok := num.Parse(rest)
	if !ok {
		return entry{}, false
	}
	return entry{sign: sign, n: n}, true
}

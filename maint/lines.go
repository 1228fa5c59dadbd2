package maint

import (
	"strconv"
	"strings"

	"landau/api"
	"landau/num"
	"landau/stripe"
	"landau/vec"
)

// The signs with which the own disk's lines begin.
const (
	signTrim = "t"
	signMap  = "m"
)

// trimLine writes a trim down in one line.
func trimLine(pos int, gone vec.Vec) string {
	return signTrim + " " + strconv.Itoa(pos) + " " + vec.Text(gone)
}

// mapLine writes a map down in one line.
func mapLine(m stripe.Map) string {
	return signMap + " " + stripe.Text(m)
}

// read takes map and trim from the own disk's lines, and cuts off what is none of them.
func (l *Log) read() {
	l.spans = l.spans[:1] // no line tells the first epoch
	good := 0
lines:
	for _, line := range l.own.Lines() {
		sign, rest, _ := strings.Cut(line, " ")
		ok := false
		switch sign {
		case signTrim:
			ok = l.readTrim(rest)
		case signMap:
			ok = l.readMap(rest)
		}
		if !ok {
			break lines
		}
		good++
	}
	if good < l.own.Len() {
		l.own.Sync() // a disk is not cut while lines wait
		l.own.Cut(good)
	}
}

// readTrim takes what a trim has behind its sign; false: it is no such line, or goes back.
func (l *Log) readTrim(rest string) bool {
	word, text, _ := strings.Cut(rest, " ")
	pos, ok := num.Parse(word)
	gone, e := vec.Parse(text)
	if !ok || e != api.OK || pos < l.trim {
		return false
	}
	l.trim, l.gone = pos, gone
	return true
}

// readMap takes what a map has behind its sign; false: it is no such line.
func (l *Log) readMap(rest string) bool {
	m, e := stripe.Parse(rest)
	if e != api.OK {
		return false
	}
	l.spans = m
	return true
}

// Package vec: how much of whom. See doc/01-vec.md.
package vec

import (
	"iter"
	"strconv"
	"strings"

	"landau/api"
	"landau/num"
)

// Vec tells of each site how many of its records; sites past its end are 0.
type Vec []int

// lastWith is the last site that With sets: a wild number must not make a wild length.
const lastWith = 63

// Get tells v's number of site i; a site that v does not have is 0.
func Get(v Vec, i int) int {
	if i < 0 || i >= len(v) {
		return 0
	}
	return v[i]
}

// With answers v with n at site i; v as it is, if i is below 0 or above 63.
func With(v Vec, i, n int) Vec {
	if i < 0 || i > lastWith {
		return stretched(v, len(v))
	}
	w := stretched(v, max(len(v), i+1))
	w[i] = n
	return w
}

// Join answers the greater number of each site.
func Join(a, b Vec) Vec {
	return bySite(a, b, func(x, y int) int { return max(x, y) })
}

// Meet answers the lesser number of each site.
func Meet(a, b Vec) Vec {
	return bySite(a, b, func(x, y int) int { return min(x, y) })
}

// Covers tells whether a is not below b anywhere.
func Covers(a, b Vec) bool {
	return everywhere(a, b, func(x, y int) bool { return x >= y })
}

// Same tells whether a and b are alike everywhere, whatever their lengths.
func Same(a, b Vec) bool {
	return everywhere(a, b, func(x, y int) bool { return x == y })
}

// Sum tells how many records v has in all.
func Sum(v Vec) int {
	sum := 0
	for _, n := range All(v) {
		sum += n
	}
	return sum
}

// All goes over the sites that are not 0, rising, with their numbers.
func All(v Vec) iter.Seq2[int, int] {
	// The caller may change v before it ranges: the sequence goes over v as it is now.
	then := stretched(v, len(v))
	return func(yield func(int, int) bool) {
		for i, n := range then {
			if n != 0 && !yield(i, n) {
				return
			}
		}
	}
}

// Check tells whether v may be the vector of so many sites.
func Check(v Vec, sites int) api.Errno {
	if sites < 1 || sites > api.MaxSites {
		return api.ErrArg
	}
	if len(v) > sites {
		return api.ErrLong
	}
	for _, n := range v {
		if n < 0 {
			return api.ErrArg
		}
		if n > api.MaxSeq {
			return api.ErrLong
		}
	}
	return api.OK
}

// Text writes v down to its last number that is not 0, so that vectors that are Same have one text.
func Text(v Vec) string {
	out := []byte{'['}
	for i, n := range v[:written(v)] {
		if i > 0 {
			out = append(out, ' ')
		}
		out = strconv.AppendInt(out, int64(n), 10)
	}
	return string(append(out, ']'))
}

// Parse reads what Text writes of a vector that Check takes, and nothing else.
func Parse(s string) (Vec, api.Errno) {
	body, opened := strings.CutPrefix(s, "[")
	body, closed := strings.CutSuffix(body, "]")
	if !opened || !closed {
		return nil, api.ErrForm
	}
	if body == "" {
		return nil, api.OK
	}
	return parseNumbers(body)
}

// parseNumbers reads numbers with blanks between. It goes on behind one that is too much,
// for a wrong form further on counts more.
func parseNumbers(body string) (Vec, api.Errno) {
	var v Vec
	last, long := 0, false
	for word := range strings.SplitSeq(body, " ") {
		n, ok := num.Decimal(word, api.MaxSeq)
		if !ok {
			return nil, api.ErrForm
		}
		last = n
		if n > api.MaxSeq || len(v) == api.MaxSites {
			long = true
		} else {
			v = append(v, n)
		}
	}
	if last == 0 {
		return nil, api.ErrForm
	}
	if long {
		return nil, api.ErrLong
	}
	return v, api.OK
}

// stretched answers v in new memory, with noughts up to size, which is not below v's length.
func stretched(v Vec, size int) Vec {
	w := make(Vec, size)
	copy(w, v)
	return w
}

// written tells how many of v's numbers a text has: those up to the last that is not 0.
func written(v Vec) int {
	size := len(v)
	for size > 0 && v[size-1] == 0 {
		size--
	}
	return size
}

// bySite answers what pick takes of each site that a or b has.
func bySite(a, b Vec, pick func(x, y int) int) Vec {
	w := make(Vec, max(len(a), len(b)))
	for i := range w {
		w[i] = pick(Get(a, i), Get(b, i))
	}
	return w
}

// everywhere tells whether holds is true of each site that a or b has.
func everywhere(a, b Vec, holds func(x, y int) bool) bool {
	for i := range max(len(a), len(b)) {
		if !holds(Get(a, i), Get(b, i)) {
			return false
		}
	}
	return true
}

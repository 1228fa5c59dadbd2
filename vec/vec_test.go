package vec_test

import (
	"fmt"
	"iter"
	"math"
	"regexp"
	"slices"
	"strings"
	"testing"

	"landau/api"
	"landau/vec"
)

// small holds every vector of up to three numbers from -1 to 2.
func small() []vec.Vec {
	out := []vec.Vec{nil}
	for from := 0; len(out) < 1+4+16+64; from++ {
		for n := -1; n <= 2; n++ {
			out = append(out, append(slices.Clone(out[from]), n))
		}
	}
	return out
}

func TestGetTellsNumberOrNought(t *testing.T) {
	v := vec.Vec{3, 0, -5}
	for _, c := range []struct{ i, want int }{
		{0, 3}, {1, 0}, {2, -5}, {3, 0}, {-1, 0}, {64, 0}, {math.MaxInt, 0}, {math.MinInt, 0},
	} {
		if got := vec.Get(v, c.i); got != c.want {
			t.Errorf("P101: Get(%v, %d) = %d, want %d", v, c.i, got, c.want)
		}
		if got := vec.Get(nil, c.i); got != 0 {
			t.Errorf("P101: Get(nil, %d) = %d", c.i, got)
		}
	}
}

func TestGetOfAnyLength(t *testing.T) {
	v := make(vec.Vec, 1000)
	v[999] = 7
	if got := vec.Get(v, 999); got != 7 {
		t.Errorf("P101: Get(v, 999) = %d", got)
	}
}

func TestWith(t *testing.T) {
	long := make(vec.Vec, 70)
	long[69] = 4
	for _, c := range []struct {
		v    vec.Vec
		i, n int
		want string
	}{
		{vec.Vec{3, 0, 5}, 0, 9, "[9 0 5]"},
		{vec.Vec{3, 0, 5}, 2, 0, "[3 0 0]"},
		{vec.Vec{3, 0, 5}, 3, 7, "[3 0 5 7]"},
		{vec.Vec{3, 0, 5}, 5, 0, "[3 0 5 0 0 0]"},
		{vec.Vec{3, 0, 5}, 1, -2, "[3 -2 5]"},
		{vec.Vec{3, 0, 0}, 0, 1, "[1 0 0]"},
		{vec.Vec{3, 0, 0}, -1, 9, "[3 0 0]"},
		{vec.Vec{3, 0, 5}, math.MinInt, 9, "[3 0 5]"},
		{vec.Vec{3, 0, 5}, 64, 9, "[3 0 5]"},
		{vec.Vec{3, 0, 5}, math.MaxInt, 9, "[3 0 5]"},
		{nil, 0, 0, "[0]"},
		{nil, -1, 1, "[]"},
		{nil, 64, 1, "[]"},
		{nil, 63, 1, "[" + strings.Repeat("0 ", 63) + "1]"},
		{long, 69, 1, "[" + strings.Repeat("0 ", 69) + "4]"},
		{long, 63, 2, "[" + strings.Repeat("0 ", 63) + "2 0 0 0 0 0 4]"},
	} {
		before := fmt.Sprint(c.v)
		if got := fmt.Sprint(vec.With(c.v, c.i, c.n)); got != c.want {
			t.Errorf("P101: With(%v, %d, %d) = %s, want %s", c.v, c.i, c.n, got, c.want)
		}
		if fmt.Sprint(c.v) != before {
			t.Errorf("P2: With changed %s to %v", before, c.v)
		}
	}
}

// TestPairsSiteBySite holds what goes over two vectors against a plain walk over their sites.
func TestPairsSiteBySite(t *testing.T) {
	all := small()
	for _, a := range all {
		for _, b := range all {
			size := max(len(a), len(b))
			join, meet, covers, same := make(vec.Vec, size), make(vec.Vec, size), true, true
			for i := range size {
				x, y := vec.Get(a, i), vec.Get(b, i)
				join[i], meet[i] = max(x, y), min(x, y)
				covers, same = covers && x >= y, same && x == y
			}
			if got := vec.Join(a, b); !slices.Equal(got, join) {
				t.Fatalf("P101: Join(%v, %v) = %v, want %v", a, b, got, join)
			}
			if got := vec.Meet(a, b); !slices.Equal(got, meet) {
				t.Fatalf("P101: Meet(%v, %v) = %v, want %v", a, b, got, meet)
			}
			if got := vec.Covers(a, b); got != covers {
				t.Fatalf("P101: Covers(%v, %v) = %v", a, b, got)
			}
			if got := vec.Same(a, b); got != same {
				t.Fatalf("P101: Same(%v, %v) = %v", a, b, got)
			}
			if got := vec.Text(a) == vec.Text(b); got != same {
				t.Fatalf("P101: Text of %v and %v: alike is %v", a, b, got)
			}
		}
	}
}

func TestPairsEdges(t *testing.T) {
	low, high := vec.Vec{math.MinInt, math.MaxInt}, vec.Vec{math.MaxInt, math.MinInt}
	for _, c := range []struct {
		a, b       vec.Vec
		join, meet string
		covers     bool
	}{
		{vec.Vec{1, 5}, vec.Vec{3, 2, 4}, "[3 5 4]", "[1 2 0]", false},
		{vec.Vec{1, 2}, nil, "[1 2]", "[0 0]", true},
		{nil, nil, "[]", "[]", true},
		{nil, vec.Vec{0, 0}, "[0 0]", "[0 0]", true},
		{nil, vec.Vec{0, -1}, "[0 0]", "[0 -1]", true},
		{vec.Vec{-1}, nil, "[0]", "[-1]", false},
		{low, high, "[9223372036854775807 9223372036854775807]", "[-9223372036854775808 -9223372036854775808]", false},
	} {
		if got := fmt.Sprint(vec.Join(c.a, c.b)); got != c.join {
			t.Errorf("P101: Join(%v, %v) = %s", c.a, c.b, got)
		}
		if got := fmt.Sprint(vec.Meet(c.a, c.b)); got != c.meet {
			t.Errorf("P101: Meet(%v, %v) = %s", c.a, c.b, got)
		}
		if got := vec.Covers(c.a, c.b); got != c.covers {
			t.Errorf("P101: Covers(%v, %v) = %v", c.a, c.b, got)
		}
	}
}

func TestPairsOfAnyLength(t *testing.T) {
	long := make(vec.Vec, 500)
	long[499] = 1
	if vec.Covers(nil, long) || !vec.Covers(long, nil) || vec.Same(long, nil) || !vec.Same(long[:499], nil) {
		t.Error("P101: Covers, Same past every limit")
	}
	if len(vec.Join(long, nil)) != 500 || len(vec.Meet(nil, long)) != 500 {
		t.Error("P101: Join, Meet are as long as the longer one")
	}
}

func TestSum(t *testing.T) {
	full := vec.Vec{api.MaxSeq, api.MaxSeq, api.MaxSeq, api.MaxSeq, api.MaxSeq, api.MaxSeq, api.MaxSeq, api.MaxSeq}
	for _, c := range []struct {
		v    vec.Vec
		want int
	}{{nil, 0}, {vec.Vec{0, 0}, 0}, {vec.Vec{3, 0, 5}, 8}, {full, 8 << 20}} {
		if got := vec.Sum(c.v); got != c.want {
			t.Errorf("P101: Sum(%v) = %d, want %d", c.v, got, c.want)
		}
	}
	vec.Sum(vec.Vec{math.MaxInt, math.MaxInt, -1}) // P1: it ends, whatever it tells
}

// told writes down what a sequence goes over, at most most of it.
func told(seq iter.Seq2[int, int], most int) string {
	out := ""
	for i, n := range seq {
		out += fmt.Sprint(i, ":", n, " ")
		if most--; most == 0 {
			break
		}
	}
	return out
}

func TestAll(t *testing.T) {
	for _, c := range []struct {
		v    vec.Vec
		most int
		want string
	}{
		{nil, 9, ""},
		{vec.Vec{0, 0}, 9, ""},
		{vec.Vec{0, 7, 0, 2, 5, 0}, 9, "1:7 3:2 4:5 "},
		{vec.Vec{0, 7, 0, 2, 5, 0}, 2, "1:7 3:2 "},
		{vec.Vec{0, 7, 0, 2, 5, 0}, 1, "1:7 "},
		{vec.Vec{-3, 0, 1}, 9, "0:-3 2:1 "},
		{append(make(vec.Vec, 99), 1), 9, "99:1 "},
	} {
		if got := told(vec.All(c.v), c.most); got != c.want {
			t.Errorf("P101: All(%v), %d of it: %q, want %q", c.v, c.most, got, c.want)
		}
	}
}

func TestAllStopsAtTheFirstNo(t *testing.T) {
	asked := 0
	vec.All(vec.Vec{1, 2, 3})(func(int, int) bool { asked++; return false })
	if asked != 1 {
		t.Errorf("P101: asked %d times behind a false", asked)
	}
}

func TestAllGoesOverWhatWasThen(t *testing.T) {
	v := vec.Vec{1, 0, 3}
	seq := vec.All(v)
	v[0], v[1], v[2] = 8, 8, 8
	for range 2 {
		if got := told(seq, 1); got != "0:1 " {
			t.Errorf("P7: left early: %q", got)
		}
		if got := told(seq, 9); got != "0:1 2:3 " {
			t.Errorf("P7: ranged over again: %q", got)
		}
	}
	for i := range seq {
		v[2] = i
	}
	if got := told(seq, 9); got != "0:1 2:3 " {
		t.Errorf("P7: changed while ranging: %q", got)
	}
}

func TestCheck(t *testing.T) {
	const most = api.MaxSeq
	for _, c := range []struct {
		v     vec.Vec
		sites int
		want  api.Errno
	}{
		{nil, 1, api.OK},
		{vec.Vec{}, 8, api.OK},
		{vec.Vec{0}, 1, api.OK},
		{vec.Vec{most}, 1, api.OK},
		{vec.Vec{1, 2, 3, 4, 5, 6, 7, most}, 8, api.OK},
		{nil, 0, api.ErrArg},
		{nil, -1, api.ErrArg},
		{nil, 9, api.ErrArg},
		{nil, math.MaxInt, api.ErrArg},
		{nil, math.MinInt, api.ErrArg},
		{vec.Vec{1, 2, 3, 4, 5, 6, 7, 8, 9}, 9, api.ErrArg},
		{vec.Vec{-1}, 1, api.ErrArg},
		{vec.Vec{math.MinInt}, 1, api.ErrArg},
		{vec.Vec{0, 0}, 1, api.ErrLong},
		{vec.Vec{1, 2, 3, 4, 5, 6, 7, 8, 9}, 8, api.ErrLong},
		{vec.Vec{most + 1}, 1, api.ErrLong},
		{vec.Vec{math.MaxInt}, 1, api.ErrLong},
		{vec.Vec{most + 1, -1}, 2, api.ErrLong},
		{vec.Vec{-1, most + 1}, 2, api.ErrArg},
		{vec.Vec{-1, 0}, 1, api.ErrLong},
		{vec.Vec{0, 0}, 0, api.ErrArg},
		{vec.Vec{most + 1}, 0, api.ErrArg},
	} {
		if got := vec.Check(c.v, c.sites); got != c.want {
			t.Errorf("P101: Check(%v, %d) = %v, want %v", c.v, c.sites, got, c.want)
		}
	}
}

func TestText(t *testing.T) {
	for _, c := range []struct {
		v    vec.Vec
		want string
	}{
		{nil, "[]"},
		{vec.Vec{0, 0}, "[]"},
		{vec.Vec{1}, "[1]"},
		{vec.Vec{0, 0, 3, 0}, "[0 0 3]"},
		{vec.Vec{10, 0, api.MaxSeq}, "[10 0 1048576]"},
		{vec.Vec{-1, 0}, "[-1]"},
		{vec.Vec{math.MaxInt, math.MinInt}, "[9223372036854775807 -9223372036854775808]"},
		{append(make(vec.Vec, 20), 5), "[" + strings.Repeat("0 ", 20) + "5]"},
	} {
		if got := vec.Text(c.v); got != c.want {
			t.Errorf("P101: Text(%v) = %q, want %q", c.v, got, c.want)
		}
	}
}

func TestParseBack(t *testing.T) {
	for _, c := range []struct {
		s    string
		want vec.Vec
	}{
		{"[]", nil},
		{"[1]", vec.Vec{1}},
		{"[0 0 3]", vec.Vec{0, 0, 3}},
		{"[10 0 1048576]", vec.Vec{10, 0, api.MaxSeq}},
		{"[1 2 3 4 5 6 7 8]", vec.Vec{1, 2, 3, 4, 5, 6, 7, 8}},
		{"[0 0 0 0 0 0 0 1]", vec.Vec{0, 0, 0, 0, 0, 0, 0, 1}},
	} {
		if got, e := vec.Parse(c.s); e != api.OK || !slices.Equal(got, c.want) {
			t.Errorf("P101: Parse(%q) = %v, %v", c.s, got, e)
		}
	}
}

func TestParseRefuses(t *testing.T) {
	digits := strings.Repeat("9", 1000)
	for s, want := range map[string]api.Errno{
		"":                           api.ErrForm,
		"[":                          api.ErrForm,
		"]":                          api.ErrForm,
		"][":                         api.ErrForm,
		"1":                          api.ErrForm,
		"[1":                         api.ErrForm,
		"1]":                         api.ErrForm,
		"[[1]]":                      api.ErrForm,
		"[1]\n":                      api.ErrForm,
		" [1]":                       api.ErrForm,
		"[ ]":                        api.ErrForm,
		"[ 1]":                       api.ErrForm,
		"[1 ]":                       api.ErrForm,
		"[1  2]":                     api.ErrForm,
		"[1\t2]":                     api.ErrForm,
		"[1,2]":                      api.ErrForm,
		"[-1]":                       api.ErrForm,
		"[-0]":                       api.ErrForm,
		"[+1]":                       api.ErrForm,
		"[0x1]":                      api.ErrForm,
		"[1_0]":                      api.ErrForm,
		"[1e3]":                      api.ErrForm,
		"[01]":                       api.ErrForm,
		"[00 1]":                     api.ErrForm,
		"[\u0661]":                   api.ErrForm,
		"[\xff]":                     api.ErrForm,
		"[0]":                        api.ErrForm,
		"[1 0]":                      api.ErrForm,
		"[1048577 x]":                api.ErrForm,
		"[1048577 0]":                api.ErrForm,
		"[1 2 3 4 5 6 7 8 0]":        api.ErrForm,
		"[1 2 3 4 5 6 7 8 9 x]":      api.ErrForm,
		"[0" + digits + "]":          api.ErrForm,
		"[1048577]":                  api.ErrLong,
		"[1048577 1]":                api.ErrLong,
		"[18446744073709551617]":     api.ErrLong,
		"[18446744073709551616 1]":   api.ErrLong,
		"[" + digits + "]":           api.ErrLong,
		"[1 2 3 4 5 6 7 8 9]":        api.ErrLong,
		"[0 0 0 0 0 0 0 0 1]":        api.ErrLong,
		"[1 2 3 4 5 6 7 8 1048577]":  api.ErrLong,
		"[1048577 2 3 4 5 6 7 8 9]":  api.ErrLong,
		strings.Repeat("[1 2 3", 99): api.ErrForm,
	} {
		if v, e := vec.Parse(s); e != want || len(v) != 0 {
			t.Errorf("P101, P4: Parse(%q) = %v, %v, want %v", s, v, e, want)
		}
	}
}

// TestParseJustSoWritten tries every short text against the form as an expression.
func TestParseJustSoWritten(t *testing.T) {
	form := regexp.MustCompile(`^\[(((0|[1-9][0-9]*) )*[1-9][0-9]*)?\]$`)
	signs := "[] 019-"
	texts := []string{""}
	for len(texts) > 0 {
		s := texts[len(texts)-1]
		texts = texts[:len(texts)-1]
		v, e := vec.Parse(s)
		if well := form.MatchString(s); well && (e != api.OK || vec.Text(v) != s) || !well && e != api.ErrForm {
			t.Fatalf("P101: Parse(%q) = %v, %v", s, v, e)
		}
		for i := 0; len(s) < 6 && i < len(signs); i++ {
			texts = append(texts, s+signs[i:i+1])
		}
	}
}

func TestParseReadsWhatTextWrites(t *testing.T) {
	for _, v := range small() {
		want := vec.Check(v, api.MaxSites)
		got, e := vec.Parse(vec.Text(v))
		if want == api.OK && (e != api.OK || !vec.Same(got, v)) || want != api.OK && e != api.ErrForm {
			t.Errorf("P101: Parse(Text(%v)) = %v, %v", v, got, e)
		}
	}
}

// roomy answers a vector with spare room behind it, and the whole of its memory.
func roomy() (v, whole vec.Vec) {
	whole = vec.Vec{4, 0, 6, 77, 77, 77, 77, 77}
	return whole[:3], whole
}

func TestAnswersAreNewMemory(t *testing.T) {
	for name, call := range map[string]func(v vec.Vec) vec.Vec{
		"With inside":  func(v vec.Vec) vec.Vec { return vec.With(v, 1, 9) },
		"With past":    func(v vec.Vec) vec.Vec { return vec.With(v, 3, 9) },
		"With below":   func(v vec.Vec) vec.Vec { return vec.With(v, -1, 9) },
		"With above":   func(v vec.Vec) vec.Vec { return vec.With(v, 64, 9) },
		"Join":         func(v vec.Vec) vec.Vec { return vec.Join(v, nil) },
		"Join behind":  func(v vec.Vec) vec.Vec { return vec.Join(nil, v) },
		"Join itself":  func(v vec.Vec) vec.Vec { return vec.Join(v, v) },
		"Join longer":  func(v vec.Vec) vec.Vec { return vec.Join(v, vec.Vec{1, 1, 1, 1}) },
		"Meet":         func(v vec.Vec) vec.Vec { return vec.Meet(v, nil) },
		"Meet behind":  func(v vec.Vec) vec.Vec { return vec.Meet(nil, v) },
		"Meet itself":  func(v vec.Vec) vec.Vec { return vec.Meet(v, v) },
		"Meet longer":  func(v vec.Vec) vec.Vec { return vec.Meet(v, vec.Vec{1, 1, 1, 1}) },
		"Text, Parse":  func(v vec.Vec) vec.Vec { w, _ := vec.Parse(vec.Text(v)); return w },
		"Check, Sum":   func(v vec.Vec) vec.Vec { vec.Check(v, 8); vec.Sum(v); return nil },
		"Covers, Same": func(v vec.Vec) vec.Vec { vec.Covers(v, v); vec.Same(v, v); return nil },
	} {
		v, whole := roomy()
		got := call(v)
		if fmt.Sprint(whole) != "[4 0 6 77 77 77 77 77]" {
			t.Errorf("P2: %s changed what it was given: %v", name, whole)
		}
		before := fmt.Sprint(got)
		for i := range whole {
			whole[i] = -9
		}
		if fmt.Sprint(got) != before {
			t.Errorf("P2: %s keeps what it was given", name)
		}
		for i := range got[:cap(got)] {
			got[:cap(got)][i] = 55
		}
		if slices.Contains(whole, 55) {
			t.Errorf("P2: %s answers memory, or room, of what it was given", name)
		}
	}
}

func TestNoListIsAnEmptyOne(t *testing.T) {
	for _, v := range []vec.Vec{nil, {}} {
		if vec.Text(v) != "[]" || vec.Sum(v) != 0 || vec.Check(v, 1) != api.OK || !vec.Same(v, nil) || !vec.Covers(v, vec.Vec{}) {
			t.Errorf("P2: %#v", v)
		}
		if len(vec.Join(v, nil)) != 0 || len(vec.Meet(v, vec.Vec{})) != 0 || len(vec.With(v, 0, 1)) != 1 || told(vec.All(v), 1) != "" {
			t.Errorf("P2: %#v", v)
		}
	}
}

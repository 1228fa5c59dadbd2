package stripe_test

import (
	"fmt"
	"iter"
	"math"
	"regexp"
	"slices"
	"strings"
	"testing"

	"landau/api"
	"landau/stripe"
)

// most is the greatest number that a text tells.
const most = 1<<31 - 1

// of makes a map of spans, each told by its From and its N.
func of(numbers ...int) stripe.Map {
	var m stripe.Map
	for pair := range slices.Chunk(numbers, 2) {
		m = append(m, stripe.Span{From: pair[0], N: pair[1]})
	}
	return m
}

// told lists what a sequence goes over, at most so many.
func told(seq iter.Seq[int], most int) []int {
	var out []int
	for pos := range seq {
		out = append(out, pos)
		if len(out) == most {
			break
		}
	}
	return out
}

// small holds every map of up to three spans with small numbers, those that may not be too.
func small() []stripe.Map {
	out := []stripe.Map{nil}
	for i := 0; i < len(out); i++ {
		if len(out[i]) == 3 {
			break
		}
		for from := -1; from <= 4; from++ {
			for _, n := range []int{-1, 0, 1, 2, 3, 8, 9} {
				out = append(out, append(slices.Clone(out[i]), stripe.Span{From: from, N: n}))
			}
		}
	}
	return out
}

// right tells whether a map may be, each span held against all those ahead of it.
func right(m stripe.Map) bool {
	if len(m) == 0 || m[0].From != 0 {
		return false
	}
	for i, span := range m {
		if span.N < 1 || span.N > 8 {
			return false
		}
		for _, ahead := range m[:i] {
			if span.From < ahead.From {
				return false
			}
		}
	}
	return true
}

// dealt deals positions out, one by one, as the epochs of a right map do: for each its epoch and its stripe.
func dealt(m stripe.Map, positions int) [][2]int {
	var out [][2]int
	for i, span := range m {
		end := positions
		if i+1 < len(m) {
			end = m[i+1].From
		}
		turn := 0
		for pos := span.From; pos < end; pos++ {
			out = append(out, [2]int{i + 1, turn})
			if turn++; turn == span.N {
				turn = 0
			}
		}
	}
	return out
}

func TestCheck(t *testing.T) {
	for _, c := range []struct {
		m    stripe.Map
		want api.Errno
	}{
		{of(0, 1), api.OK},
		{of(0, 8), api.OK},
		{of(0, 1, 1, 1), api.OK},
		{of(0, 3, 0, 2), api.OK},
		{of(0, 3, 5, 2, 5, 4, 5, 1, 6, 8), api.OK},
		{of(0, 1, most, 8, most+1, 1), api.OK},
		{of(0, 1, math.MaxInt, 8, math.MaxInt, 1), api.OK},
		{nil, api.ErrArg},
		{stripe.Map{}, api.ErrArg},
		{of(1, 1), api.ErrArg},
		{of(-1, 1), api.ErrArg},
		{of(math.MinInt, 1), api.ErrArg},
		{of(1, 1, 1, 1), api.ErrArg},
		{of(-1, 1, 0, 1), api.ErrArg},
		{of(0, 0), api.ErrArg},
		{of(0, -1), api.ErrArg},
		{of(0, 9), api.ErrArg},
		{of(0, math.MaxInt), api.ErrArg},
		{of(0, math.MinInt), api.ErrArg},
		{of(0, 1, -1, 1), api.ErrArg},
		{of(0, 1, 5, 1, 4, 1), api.ErrArg},
		{of(0, 1, 5, 1, 0, 1), api.ErrArg},
		{of(0, 1, 5, 1, 3, 1, 4, 1), api.ErrArg},
		{of(0, 1, 5, 0), api.ErrArg},
		{of(0, 1, 5, 9), api.ErrArg},
		{of(0, 0, 5, 1), api.ErrArg},
		{of(0, 1, 5, 9, 6, 1), api.ErrArg},
	} {
		if got := stripe.Check(c.m); got != c.want {
			t.Errorf("P501: Check(%v) = %v, want %v", c.m, got, c.want)
		}
	}
}

func TestFind(t *testing.T) {
	m := of(0, 3, 5, 2, 5, 4, 11, 1, 12, 8)
	for _, c := range []struct {
		m                  stripe.Map
		pos, epoch, stripe int
	}{
		{m, 0, 1, 0},
		{m, 2, 1, 2},
		{m, 3, 1, 0},
		{m, 4, 1, 1},
		{m, 5, 3, 0},
		{m, 8, 3, 3},
		{m, 9, 3, 0},
		{m, 10, 3, 1},
		{m, 11, 4, 0},
		{m, 12, 5, 0},
		{m, 19, 5, 7},
		{m, 20, 5, 0},
		{m, math.MaxInt, 5, (math.MaxInt - 12) % 8},
		{of(0, 3), most + 1, 1, (most + 1) % 3},
		{of(0, 3, 0, 2), 0, 2, 0},
		{of(0, 3, math.MaxInt, 2), math.MaxInt - 1, 1, (math.MaxInt - 1) % 3},
		{of(0, 3, math.MaxInt, 2), math.MaxInt, 2, 0},
	} {
		if epoch, k, e := stripe.Find(c.m, c.pos); epoch != c.epoch || k != c.stripe || e != api.OK {
			t.Errorf("P501: Find(%v, %d) = %d, %d, %v, want %d, %d", c.m, c.pos, epoch, k, e, c.epoch, c.stripe)
		}
	}
}

func TestFindRefuses(t *testing.T) {
	for _, c := range []struct {
		m   stripe.Map
		pos int
	}{
		{of(0, 3), -1},
		{of(0, 3), math.MinInt},
		{of(-1, 3), -1},
		{of(1, 3), 1},
		{of(0, 9), 0},
		{of(0, 0), 0},
		{of(0, 1, 5, 0), 0},
		{of(0, 1, 5, 9), 7},
		{of(0, 1, 5, 1, 4, 1), 9},
		{nil, 0},
		{nil, -1},
	} {
		if epoch, k, e := stripe.Find(c.m, c.pos); epoch != 0 || k != 0 || e != api.ErrArg {
			t.Errorf("P501, P4: Find(%v, %d) = %d, %d, %v", c.m, c.pos, epoch, k, e)
		}
	}
}

func TestAdd(t *testing.T) {
	m := of(0, 3, 5, 2)
	for _, c := range []struct {
		m       stripe.Map
		from, n int
		want    string
		e       api.Errno
	}{
		{m, 5, 1, "[{0 3} {5 2} {5 1}]", api.OK},
		{m, 6, 8, "[{0 3} {5 2} {6 8}]", api.OK},
		{m, 7, 2, "[{0 3} {5 2} {7 2}]", api.OK},
		{m, math.MaxInt, 2, "[{0 3} {5 2} {9223372036854775807 2}]", api.OK},
		{nil, 0, 8, "[{0 8}]", api.OK},
		{stripe.Map{}, 0, 1, "[{0 1}]", api.OK},
		{m, 4, 1, "[]", api.ErrArg},
		{m, -1, 1, "[]", api.ErrArg},
		{m, math.MinInt, 1, "[]", api.ErrArg},
		{m, 6, 0, "[]", api.ErrArg},
		{m, 6, -1, "[]", api.ErrArg},
		{m, 6, 9, "[]", api.ErrArg},
		{m, 6, math.MaxInt, "[]", api.ErrArg},
		{nil, 1, 1, "[]", api.ErrArg},
		{nil, -1, 1, "[]", api.ErrArg},
		{nil, 0, 0, "[]", api.ErrArg},
		{of(1, 1), 2, 1, "[]", api.ErrArg},
		{of(0, 9), 2, 1, "[]", api.ErrArg},
		{of(0, 1, 5, 1, 4, 1), 6, 1, "[]", api.ErrArg},
	} {
		before := fmt.Sprint(c.m)
		if got, e := stripe.Add(c.m, c.from, c.n); fmt.Sprint(got) != c.want || e != c.e {
			t.Errorf("P501, P4: Add(%v, %d, %d) = %v, %v, want %s, %v", c.m, c.from, c.n, got, e, c.want, c.e)
		}
		if fmt.Sprint(c.m) != before {
			t.Errorf("P2, P5: Add changed %s to %v", before, c.m)
		}
	}
}

func TestPositions(t *testing.T) {
	m := of(0, 3, 5, 2, 5, 4, 11, 1)
	for _, c := range []struct {
		stripe, from, to int
		want             string
	}{
		{0, 0, 15, "[0 3 5 9 11 12 13 14]"},
		{1, 0, 15, "[1 4 6 10]"},
		{2, 0, 15, "[2 7]"},
		{3, 0, 15, "[8]"},
		{4, 0, 15, "[]"},
		{7, 0, 15, "[]"},
		{-1, 0, 15, "[]"},
		{math.MaxInt, 0, 15, "[]"},
		{math.MinInt, 0, 15, "[]"},
		{0, 3, 9, "[3 5]"},
		{0, 4, 10, "[5 9]"},
		{1, 4, 5, "[4]"},
		{1, 5, 6, "[]"},
		{0, -9, 4, "[0 3]"},
		{0, math.MinInt, 1, "[0]"},
		{0, 0, 0, "[]"},
		{0, 9, 9, "[]"},
		{0, 12, 3, "[]"},
		{0, -9, -5, "[]"},
		{0, math.MinInt, math.MinInt, "[]"},
		{0, math.MaxInt, math.MinInt, "[]"},
	} {
		if got := fmt.Sprint(told(stripe.Positions(m, c.stripe, c.from, c.to), 99)); got != c.want {
			t.Errorf("P501: Positions(%v, %d, %d, %d): %s, want %s", m, c.stripe, c.from, c.to, got, c.want)
		}
	}
}

// TestPositionsFarOut goes to the greatest numbers, behind which a count would wrap round.
func TestPositionsFarOut(t *testing.T) {
	const last = math.MaxInt
	for _, n := range []int{1, 2, 3, 5, 7, 8} {
		for _, m := range []stripe.Map{of(0, n), of(0, 1, last-13, n), of(0, 1, last-13, 2, last-13, n), of(0, n, last, 1)} {
			begin := m[len(m)-1].From
			if begin == last {
				begin = 0
			}
			for from := last - 9; from > 0; from++ { // till it wraps round
				for k := range n {
					var want []int
					for pos := from; pos < last; pos++ {
						if (pos-begin)%n == k {
							want = append(want, pos)
						}
					}
					if got := told(stripe.Positions(m, k, from, last), 99); !slices.Equal(got, want) {
						t.Fatalf("P501: Positions(%v, %d, %d, %d): %v, want %v", m, k, from, last, got, want)
					}
				}
			}
		}
	}
}

// TestPositionsEndWithoutWalking: a stripe that an endless epoch does not have ends at once.
func TestPositionsEndWithoutWalking(t *testing.T) {
	m := of(0, 8, 9, 1, math.MaxInt-1, 8)
	if got := fmt.Sprint(told(stripe.Positions(m, 1, 0, math.MaxInt), 99)); got != "[1]" {
		t.Errorf("P501: %s", got)
	}
	if got := fmt.Sprint(told(stripe.Positions(m, 0, math.MaxInt-3, math.MaxInt), 99)); got != fmt.Sprint([]int{math.MaxInt - 3, math.MaxInt - 2, math.MaxInt - 1}) {
		t.Errorf("P501: %s", got)
	}
}

func TestPositionsOfWrongMapsAreNone(t *testing.T) {
	for _, m := range []stripe.Map{nil, {}, of(1, 1), of(-1, 1), of(0, 0), of(0, -1), of(0, 9), of(0, 1, 5, 0), of(0, 1, 5, 9), of(0, 1, 5, 1, 4, 1)} {
		if got := told(stripe.Positions(m, 0, 0, 20), 99); got != nil {
			t.Errorf("P501: Positions of %v: %v", m, got)
		}
	}
}

// TestSmallMapsOneByOne holds every small map against positions that are dealt out one by one.
func TestSmallMapsOneByOne(t *testing.T) {
	const end = 14
	taken := 0
	for _, m := range small() {
		if !right(m) {
			if stripe.Check(m) != api.ErrArg || told(stripe.Positions(m, 0, 0, end), 1) != nil {
				t.Fatalf("P501: %v was taken", m)
			}
			if epoch, k, e := stripe.Find(m, 4); epoch != 0 || k != 0 || e != api.ErrArg {
				t.Fatalf("P501: Find(%v, 4) = %d, %d, %v", m, epoch, k, e)
			}
			continue
		}
		taken++
		if e := stripe.Check(m); e != api.OK {
			t.Fatalf("P501: Check(%v) = %v", m, e)
		}
		holdAgainst(t, m, dealt(m, end))
	}
	if taken == 0 {
		t.Error("no map was right")
	}
}

// holdAgainst holds what Find and Positions tell of a right map against the epoch and the stripe of each position.
func holdAgainst(t *testing.T, m stripe.Map, want [][2]int) {
	t.Helper()
	for pos, w := range want {
		if epoch, k, e := stripe.Find(m, pos); epoch != w[0] || k != w[1] || e != api.OK {
			t.Fatalf("P501: Find(%v, %d) = %d, %d, %v, want %v", m, pos, epoch, k, e, w)
		}
	}
	for k := -1; k <= 8; k++ {
		for from := -1; from <= len(want); from++ {
			for to := -1; to <= len(want); to++ {
				var list []int
				for pos := max(from, 0); pos < to; pos++ {
					if want[pos][1] == k {
						list = append(list, pos)
					}
				}
				if got := told(stripe.Positions(m, k, from, to), 99); !slices.Equal(got, list) {
					t.Fatalf("P501: Positions(%v, %d, %d, %d): %v, want %v", m, k, from, to, got, list)
				}
			}
		}
	}
}

func TestPositionsStopAtTheFirstNo(t *testing.T) {
	for most := 1; most <= 5; most++ {
		asked := 0
		stripe.Positions(of(0, 2, 3, 3, 9, 1), 0, 0, math.MaxInt)(func(int) bool { asked++; return asked < most })
		if asked != most {
			t.Errorf("P7: asked %d times, the false was the %d-th", asked, most)
		}
	}
}

func TestPositionsGoOverWhatWasThen(t *testing.T) {
	m := of(0, 2, 3, 3)
	seq := stripe.Positions(m, 0, 0, 10)
	const want = "[0 2 3 6 9]"
	m[0], m[1] = stripe.Span{From: 0, N: 9}, stripe.Span{From: 1, N: 1}
	for range 2 {
		if got := fmt.Sprint(told(seq, 2)); got != "[0 2]" {
			t.Errorf("P7: left early: %s", got)
		}
		if got := fmt.Sprint(told(seq, 99)); got != want {
			t.Errorf("P7: ranged over again: %s", got)
		}
	}
	for pos := range seq {
		m[1].From = pos
		if got := fmt.Sprint(told(seq, 99)); got != want {
			t.Errorf("P7: ranged over inside: %s", got)
		}
	}
	wrong := of(0, 9)
	none := stripe.Positions(wrong, 0, 0, 10)
	wrong[0].N = 1
	if got := told(none, 99); got != nil {
		t.Errorf("P7: of a map that was wrong then: %v", got)
	}
}

func TestText(t *testing.T) {
	for _, c := range []struct {
		m    stripe.Map
		want string
	}{
		{nil, ""},
		{stripe.Map{}, ""},
		{of(0, 1), "0/1"},
		{of(0, 3, 5, 2, 5, 8), "0/3 5/2 5/8"},
		{of(0, 8, most, 1), "0/8 2147483647/1"},
		{of(0, 0), "0/0"},
		{of(-1, -2, 10, 20), "-1/-2 10/20"},
		{of(math.MaxInt, math.MinInt), "9223372036854775807/-9223372036854775808"},
	} {
		if got := stripe.Text(c.m); got != c.want {
			t.Errorf("P501: Text(%v) = %q, want %q", c.m, got, c.want)
		}
	}
}

func TestParseBack(t *testing.T) {
	for _, m := range []stripe.Map{of(0, 1), of(0, 8), of(0, 3, 0, 2), of(0, 3, 5, 2, 5, 8), of(0, 8, most-1, 2, most, 1), of(0, 1, 10, 2, 100, 3)} {
		if got, e := stripe.Parse(stripe.Text(m)); e != api.OK || !slices.Equal(got, m) {
			t.Errorf("P501: Parse(%q) = %v, %v", stripe.Text(m), got, e)
		}
	}
}

func TestParseRefuses(t *testing.T) {
	digits := strings.Repeat("9", 1000)
	for s, want := range map[string]api.Errno{
		" ":                      api.ErrForm,
		"/":                      api.ErrForm,
		"0":                      api.ErrForm,
		"0/":                     api.ErrForm,
		"/1":                     api.ErrForm,
		"0 1":                    api.ErrForm,
		"0 /1":                   api.ErrForm,
		"0/ 1":                   api.ErrForm,
		"0//1":                   api.ErrForm,
		"0/1/":                   api.ErrForm,
		"0/1/2":                  api.ErrForm,
		"0\\1":                   api.ErrForm,
		" 0/1":                   api.ErrForm,
		"0/1 ":                   api.ErrForm,
		"0/1  5/2":               api.ErrForm,
		"0/1\t5/2":               api.ErrForm,
		"0/1,5/2":                api.ErrForm,
		"0/1\n":                  api.ErrForm,
		"0/1 5":                  api.ErrForm,
		"00/1":                   api.ErrForm,
		"0/01":                   api.ErrForm,
		"0/1 05/1":               api.ErrForm,
		"-0/1":                   api.ErrForm,
		"-1/2":                   api.ErrForm,
		"+0/1":                   api.ErrForm,
		"0/+1":                   api.ErrForm,
		"0/-1":                   api.ErrForm,
		"0x0/1":                  api.ErrForm,
		"0/1 1_0/1":              api.ErrForm,
		"0/1 1e3/1":              api.ErrForm,
		"\u0660/1":               api.ErrForm,
		"0/\xff":                 api.ErrForm,
		"0/1 2147483648/1":       api.ErrForm,
		"0/2147483648":           api.ErrForm,
		"0/18446744073709551617": api.ErrForm,
		"18446744073709551616/1": api.ErrForm,
		"0/" + digits:            api.ErrForm,
		"0/1 " + digits + "/1":   api.ErrForm,
		"0/9 x":                  api.ErrForm,
		"1/1 ":                   api.ErrForm,
		"0/1 5/2 4/1 6":          api.ErrForm,
		"":                       api.ErrArg,
		"1/1":                    api.ErrArg,
		"2147483647/1":           api.ErrArg,
		"0/0":                    api.ErrArg,
		"0/9":                    api.ErrArg,
		"0/2147483647":           api.ErrArg,
		"0/1 5/0":                api.ErrArg,
		"0/1 5/9":                api.ErrArg,
		"0/1 5/2 4/1":            api.ErrArg,
	} {
		if m, e := stripe.Parse(s); e != want || len(m) != 0 {
			t.Errorf("P501, P4, P6: Parse(%q) = %v, %v, want %v", s, m, e, want)
		}
	}
}

// TestParseJustSoWritten tries every short text against the form as an expression.
func TestParseJustSoWritten(t *testing.T) {
	form := regexp.MustCompile(`^((0|[1-9][0-9]*)/(0|[1-9][0-9]*)( (0|[1-9][0-9]*)/(0|[1-9][0-9]*))*)?$`)
	signs := "/ 019-"
	texts := []string{""}
	for len(texts) > 0 {
		s := texts[len(texts)-1]
		texts = texts[:len(texts)-1]
		m, e := stripe.Parse(s)
		switch {
		case !form.MatchString(s):
			if e != api.ErrForm || len(m) != 0 {
				t.Fatalf("P501: Parse(%q) = %v, %v", s, m, e)
			}
		case e == api.OK:
			if stripe.Text(m) != s || !right(m) {
				t.Fatalf("P501: Parse(%q) = %v", s, m)
			}
		case e != api.ErrArg || len(m) != 0:
			t.Fatalf("P501: Parse(%q) = %v, %v", s, m, e)
		}
		for i := 0; len(s) < 7 && i < len(signs); i++ {
			texts = append(texts, s+signs[i:i+1])
		}
	}
}

func TestParseReadsWhatTextWrites(t *testing.T) {
	for _, m := range small() {
		want := api.OK
		switch {
		case slices.ContainsFunc(m, func(s stripe.Span) bool { return s.From < 0 || s.N < 0 }):
			want = api.ErrForm
		case !right(m):
			want = api.ErrArg
		}
		got, e := stripe.Parse(stripe.Text(m))
		if e != want || e == api.OK && !slices.Equal(got, m) || e != api.OK && len(got) != 0 {
			t.Fatalf("P501: Parse(%q) = %v, %v, want %v", stripe.Text(m), got, e, want)
		}
	}
}

// roomy answers a map with spare room behind it, and the whole of its memory.
func roomy() (m, whole stripe.Map) {
	whole = of(0, 3, 5, 2, 77, 77, 77, 77)
	return whole[:2], whole
}

func TestAnswersAreNewMemory(t *testing.T) {
	for name, call := range map[string]func(m stripe.Map) stripe.Map{
		"Add":         func(m stripe.Map) stripe.Map { x, _ := stripe.Add(m, 6, 1); return x },
		"Add refused": func(m stripe.Map) stripe.Map { x, _ := stripe.Add(m, 4, 1); return x },
		"Text, Parse": func(m stripe.Map) stripe.Map { x, _ := stripe.Parse(stripe.Text(m)); return x },
		"Check, Find": func(m stripe.Map) stripe.Map { stripe.Check(m); stripe.Find(m, 9); return nil },
		"Positions":   func(m stripe.Map) stripe.Map { told(stripe.Positions(m, 0, 0, 20), 99); return nil },
	} {
		m, whole := roomy()
		got := call(m)
		if fmt.Sprint(whole) != "[{0 3} {5 2} {77 77} {77 77}]" {
			t.Errorf("P2: %s changed what it was given: %v", name, whole)
		}
		before := fmt.Sprint(got)
		for i := range whole {
			whole[i] = stripe.Span{From: -9, N: -9}
		}
		if fmt.Sprint(got) != before {
			t.Errorf("P2: %s keeps what it was given", name)
		}
		for i := range got[:cap(got)] {
			got[:cap(got)][i] = stripe.Span{From: 55, N: 55}
		}
		if slices.Contains(whole, stripe.Span{From: 55, N: 55}) {
			t.Errorf("P2: %s answers memory, or room, of what it was given", name)
		}
	}
}

// TestAddTwiceToOneMap: two maps that grew from one do not meet in its spare room.
func TestAddTwiceToOneMap(t *testing.T) {
	m, _ := stripe.Add(of(0, 1), 3, 2)
	a, _ := stripe.Add(m, 5, 3)
	b, _ := stripe.Add(m, 7, 4)
	if got := fmt.Sprint(m, a, b); got != "[{0 1} {3 2}] [{0 1} {3 2} {5 3}] [{0 1} {3 2} {7 4}]" {
		t.Errorf("P2: %s", got)
	}
}

package rec_test

import (
	"fmt"
	"iter"
	"math"
	"regexp"
	"slices"
	"strings"
	"testing"
	"unsafe"

	"landau/api"
	"landau/rec"
	"landau/vec"
)

// good answers a record that Check takes, with memory of its own.
func good() rec.Record {
	return rec.Record{Site: 1, Seq: 3, Dep: vec.Vec{5, 2}, Key: "k9", Val: "a=b]"}
}

// with answers a good record that change was done to.
func with(change func(r *rec.Record)) rec.Record {
	r := good()
	change(&r)
	return r
}

func TestCheckNumbers(t *testing.T) {
	for _, c := range []struct {
		site, seq, sites int
		want             api.Errno
	}{
		{0, 1, 1, api.OK},
		{7, api.MaxSeq, 8, api.OK},
		{0, 1, 8, api.OK},
		{0, 1, 0, api.ErrArg},
		{0, 1, -1, api.ErrArg},
		{0, 1, 9, api.ErrArg},
		{8, 1, 9, api.ErrArg},
		{0, 1, math.MaxInt, api.ErrArg},
		{0, 1, math.MinInt, api.ErrArg},
		{1, 1, 1, api.ErrArg},
		{8, 1, 8, api.ErrArg},
		{-1, 1, 8, api.ErrArg},
		{math.MaxInt, 1, 8, api.ErrArg},
		{math.MinInt, 1, 8, api.ErrArg},
		{0, 0, 8, api.ErrArg},
		{0, -1, 8, api.ErrArg},
		{0, api.MaxSeq + 1, 8, api.ErrArg},
		{0, math.MaxInt, 8, api.ErrArg},
		{0, math.MinInt, 8, api.ErrArg},
	} {
		r := rec.Record{Site: c.site, Seq: c.seq, Key: "a"}
		if got := rec.Check(r, c.sites); got != c.want {
			t.Errorf("P201: Check(%v, %d) = %v, want %v", r, c.sites, got, c.want)
		}
	}
}

func TestCheckDep(t *testing.T) {
	for _, c := range []struct {
		dep  vec.Vec
		want api.Errno
	}{
		{nil, api.OK},
		{vec.Vec{}, api.OK},
		{vec.Vec{0, 0, 0}, api.OK},
		{vec.Vec{9}, api.OK},
		{vec.Vec{api.MaxSeq, 2, api.MaxSeq}, api.OK},
		{vec.Vec{0, 3}, api.ErrOrder},
		{vec.Vec{0, 4}, api.ErrOrder},
		{vec.Vec{0, api.MaxSeq}, api.ErrOrder},
		{vec.Vec{0, -1}, api.ErrArg},
		{vec.Vec{-1, 9}, api.ErrArg},
		{vec.Vec{0, 0, 0, 0}, api.ErrLong},
		{vec.Vec{-1, 0, 0, 0}, api.ErrLong},
		{vec.Vec{api.MaxSeq + 1, 9}, api.ErrLong},
		{vec.Vec{api.MaxSeq + 1, -1}, api.ErrLong},
		{vec.Vec{0, api.MaxSeq + 1}, api.ErrLong},
	} {
		r := with(func(r *rec.Record) { r.Dep = c.dep })
		if got := rec.Check(r, 3); got != c.want {
			t.Errorf("P201: Check of Dep %v = %v, want %v", c.dep, got, c.want)
		}
	}
}

func TestCheckDepIsBelowSeqOfItsOwnSiteAlone(t *testing.T) {
	for site := range 3 {
		for of := range 3 {
			for n := range 4 {
				r := rec.Record{Site: site, Seq: 2, Dep: vec.With(nil, of, n), Key: "a"}
				want := api.OK
				if of == site && n >= 2 {
					want = api.ErrOrder
				}
				if got := rec.Check(r, 3); got != want {
					t.Errorf("P201: Check(%v) = %v, want %v", r, got, want)
				}
			}
		}
	}
}

func TestCheckKey(t *testing.T) {
	for c := range 256 {
		want := api.ErrName
		if c >= 'a' && c <= 'z' || c >= '0' && c <= '9' {
			want = api.OK
		}
		one := string([]byte{byte(c)})
		for _, key := range []string{one, "a" + one, one + "z", "abcdefg" + one} {
			r := with(func(r *rec.Record) { r.Key = key })
			if got := rec.Check(r, 3); got != want {
				t.Errorf("P201: Check of Key %q = %v, want %v", key, got, want)
			}
		}
	}
	for key, want := range map[string]api.Errno{
		"":                        api.ErrName,
		"abcdefgh":                api.OK,
		"abcdefghi":               api.ErrName,
		"\u00e4":                  api.ErrName,
		strings.Repeat("a", 9999): api.ErrName,
	} {
		r := with(func(r *rec.Record) { r.Key = key })
		if got := rec.Check(r, 3); got != want {
			t.Errorf("P201: Check of Key %q = %v, want %v", key, got, want)
		}
	}
}

func TestCheckVal(t *testing.T) {
	for c := range 256 {
		want, long := api.ErrForm, api.ErrForm
		if c >= 0x21 && c <= 0x7e {
			want, long = api.OK, api.ErrLong
		}
		one := string([]byte{byte(c)})
		for _, v := range []struct {
			val  string
			want api.Errno
		}{
			{one, want},
			{"x" + one, want},
			{one + "x", want},
			{strings.Repeat("x", 15) + one, want},
			{strings.Repeat("x", 16) + one, long},
			{one + strings.Repeat("x", 16), long},
			{strings.Repeat("x", 999) + one, long},
		} {
			r := with(func(r *rec.Record) { r.Val = v.val })
			if got := rec.Check(r, 3); got != v.want {
				t.Errorf("P201: Check of Val %q = %v, want %v", v.val, got, v.want)
			}
		}
	}
	if got := rec.Check(with(func(r *rec.Record) { r.Val = "" }), 3); got != api.OK {
		t.Errorf("P201: Check of no Val = %v", got)
	}
}

// TestCheckTellsTheFirst does to a good record each two of the faults, in the order in which P201 names them.
func TestCheckTellsTheFirst(t *testing.T) {
	faults := []struct {
		name string
		want api.Errno
		do   func(r *rec.Record, sites *int)
	}{
		{"sites", api.ErrArg, func(r *rec.Record, sites *int) { *sites = 9 }},
		{"site", api.ErrArg, func(r *rec.Record, sites *int) { r.Site = -1 }},
		{"seq", api.ErrArg, func(r *rec.Record, sites *int) { r.Seq = api.MaxSeq + 1 }},
		{"dep's length", api.ErrLong, func(r *rec.Record, sites *int) { r.Dep = append(r.Dep, 1, 1) }},
		{"dep", api.ErrArg, func(r *rec.Record, sites *int) { r.Dep[0] = -1 }},
		{"order", api.ErrOrder, func(r *rec.Record, sites *int) { r.Dep[1] = api.MaxSeq }},
		{"key", api.ErrName, func(r *rec.Record, sites *int) { r.Key = "K" }},
		{"val", api.ErrForm, func(r *rec.Record, sites *int) { r.Val += "\n" }},
		{"val's length", api.ErrLong, func(r *rec.Record, sites *int) { r.Val += strings.Repeat("x", 16) }},
	}
	for i, first := range faults {
		for _, second := range faults[i:] {
			r, sites := good(), 3
			second.do(&r, &sites)
			first.do(&r, &sites)
			if got := rec.Check(r, sites); got != first.want {
				t.Errorf("P6: %s and %s: %v, want %v", first.name, second.name, got, first.want)
			}
		}
	}
}

func TestBefore(t *testing.T) {
	numbers := []int{math.MinInt, -1, 0, 1, 2, math.MaxInt}
	for _, site := range numbers {
		for _, seq := range numbers {
			for _, site2 := range numbers {
				for _, seq2 := range numbers {
					a := rec.Record{Site: site, Seq: seq, Dep: vec.Vec{9}, Key: "z", Val: "z"}
					b := rec.Record{Site: site2, Seq: seq2, Key: "a"}
					want := site < site2 || site == site2 && seq < seq2
					if got := rec.Before(a, b); got != want {
						t.Errorf("P201: Before(%v, %v) = %v", a, b, got)
					}
				}
			}
		}
	}
}

func TestSame(t *testing.T) {
	for _, c := range []struct {
		change func(r *rec.Record)
		want   bool
	}{
		{func(r *rec.Record) {}, true},
		{func(r *rec.Record) { r.Dep = append(r.Dep, 0, 0) }, true},
		{func(r *rec.Record) { r.Dep = append(r.Dep, 1) }, false},
		{func(r *rec.Record) { r.Dep[0] = 4 }, false},
		{func(r *rec.Record) { r.Dep = nil }, false},
		{func(r *rec.Record) { r.Site = 0 }, false},
		{func(r *rec.Record) { r.Seq = 4 }, false},
		{func(r *rec.Record) { r.Key = "k" }, false},
		{func(r *rec.Record) { r.Val = "" }, false},
		{func(r *rec.Record) { r.Key, r.Val = r.Val, r.Key }, false},
	} {
		a, b := good(), with(c.change)
		if rec.Same(a, b) != c.want || rec.Same(b, a) != c.want || !rec.Same(b, b) {
			t.Errorf("P201: Same(%v, %v) is not %v", a, b, c.want)
		}
	}
	wild := rec.Record{Site: -5, Seq: math.MinInt, Dep: make(vec.Vec, 100), Key: "\xff", Val: "\n"}
	if !rec.Same(wild, rec.Record{Site: -5, Seq: math.MinInt, Key: "\xff", Val: "\n"}) || rec.Same(wild, good()) {
		t.Error("P201: Same tells so of any two")
	}
}

func TestText(t *testing.T) {
	for _, c := range []struct {
		r    rec.Record
		want string
	}{
		{rec.Record{}, "0:0 [] ="},
		{good(), "1:3 [5 2] k9=a=b]"},
		{rec.Record{Seq: 1, Key: "a"}, "0:1 [] a="},
		{rec.Record{Site: 7, Seq: api.MaxSeq, Dep: vec.Vec{0, 1, 0}, Key: "z", Val: "!~:"}, "7:1048576 [0 1] z=!~:"},
		{rec.Record{Site: -1, Seq: math.MinInt, Dep: vec.Vec{-2}, Key: " =", Val: "\n\xff"}, "-1:-9223372036854775808 [-2]  ==\n\xff"},
	} {
		if got := rec.Text(c.r); got != c.want {
			t.Errorf("P201: Text(%v) = %q, want %q", c.r, got, c.want)
		}
	}
}

func TestParseBack(t *testing.T) {
	for _, r := range []rec.Record{
		good(),
		{Seq: 1, Key: "a"},
		{Seq: 1, Key: "a", Dep: vec.Vec{0, 0}},
		{Seq: 1, Key: "a", Val: "="},
		{Seq: 1, Key: "a", Val: "[]:=]["},
		{Site: 7, Seq: api.MaxSeq, Dep: vec.Vec{1, 2, 3, 4, 5, 6, 7, api.MaxSeq - 1}, Key: "abcdefgh", Val: "!~!~!~!~!~!~!~!~"},
		{Site: 3, Seq: 10, Dep: vec.Vec{0, 0, api.MaxSeq}, Key: "09az", Val: "1:1"},
	} {
		s := rec.Text(r)
		if got, e := rec.Parse(s); e != api.OK || !rec.Same(got, r) {
			t.Errorf("P201: Parse(%q) = %v, %v", s, got, e)
		}
	}
}

func TestParseRefuses(t *testing.T) {
	digits := strings.Repeat("9", 1000)
	for s, want := range map[string]api.Errno{
		"":                            api.ErrForm,
		":":                           api.ErrForm,
		"0:1":                         api.ErrForm,
		"0:1 ":                        api.ErrForm,
		"0:1 []":                      api.ErrForm,
		"0:1 [] ":                     api.ErrForm,
		"0:1 [] a":                    api.ErrForm,
		"0:1 []a=":                    api.ErrForm,
		"0:1 []  a=":                  api.ErrName,
		"0:1 [] a =":                  api.ErrName,
		"0:1  [] a=":                  api.ErrForm,
		"0:1[] a=":                    api.ErrForm,
		"0:1\t[] a=":                  api.ErrForm,
		"0:1 []\ta=":                  api.ErrForm,
		" 0:1 [] a=":                  api.ErrForm,
		"0 :1 [] a=":                  api.ErrForm,
		"0: 1 [] a=":                  api.ErrForm,
		"0::1 [] a=":                  api.ErrForm,
		":1 [] a=":                    api.ErrForm,
		"0: [] a=":                    api.ErrForm,
		"1 [] a=":                     api.ErrForm,
		"0 1 [] a=:":                  api.ErrForm,
		"00:1 [] a=":                  api.ErrForm,
		"0:01 [] a=":                  api.ErrForm,
		"-1:1 [] a=":                  api.ErrForm,
		"0:-1 [] a=":                  api.ErrForm,
		"+0:1 [] a=":                  api.ErrForm,
		"0:+1 [] a=":                  api.ErrForm,
		"0x0:1 [] a=":                 api.ErrForm,
		"0:1_0 [] a=":                 api.ErrForm,
		"\u0661:1 [] a=":              api.ErrForm,
		"2147483648:1 [] a=":          api.ErrForm,
		"0:2147483648 [] a=":          api.ErrForm,
		digits + ":1 [] a=":           api.ErrForm,
		"0:" + digits + " [] a=":      api.ErrForm,
		"0:1 a=":                      api.ErrForm,
		"0:1 [ a=":                    api.ErrForm,
		"0:1 ] a=":                    api.ErrForm,
		"0:1 [[] a=":                  api.ErrForm,
		"0:1 []] a=":                  api.ErrForm,
		"0:1 x[] a=":                  api.ErrForm,
		"0:1 [0] a=":                  api.ErrForm,
		"0:1 [0 1 0] a=":              api.ErrForm,
		"0:1 [0 01] a=":               api.ErrForm,
		"0:1 [ ] a=":                  api.ErrForm,
		"0:1 [-1] a=":                 api.ErrForm,
		"0:1 [0,1] a=":                api.ErrForm,
		"0:1 [1048577 x] a=":          api.ErrForm,
		"0:2 [1048577] a=":            api.ErrLong,
		"0:2 [" + digits + "] a=":     api.ErrLong,
		"0:2 [0 2 3 4 5 6 7 8 9] a=":  api.ErrLong,
		"8:1 [] a=":                   api.ErrArg,
		"2147483647:1 [] a=":          api.ErrArg,
		"0:0 [] a=":                   api.ErrArg,
		"0:1048577 [] a=":             api.ErrArg,
		"0:2147483647 [] a=":          api.ErrArg,
		"0:1 [1] a=":                  api.ErrOrder,
		"1:1 [0 1] a=":                api.ErrOrder,
		"0:1 [] =":                    api.ErrName,
		"0:1 [] A=":                   api.ErrName,
		"0:1 [] []=":                  api.ErrName,
		"0:1 [] abcdefghi=":           api.ErrName,
		"0:1 [] a\n=":                 api.ErrName,
		"0:1 [] a= ":                  api.ErrForm,
		"0:1 [] a=b\n":                api.ErrForm,
		"0:1 [] a=\x80":               api.ErrForm,
		"0:1 [] a=0123456789abcdef":   api.OK,
		"0:1 [] a=0123456789abcdefg":  api.ErrLong,
		"0:1 [] a=0123456789abcdefg ": api.ErrForm,
	} {
		r, e := rec.Parse(s)
		if e != want {
			t.Errorf("P201: Parse(%q) = %v, want %v", s, e, want)
		}
		if e != api.OK && !zero(r) {
			t.Errorf("P4: Parse(%q) tells %v beside %v", s, r, e)
		}
	}
}

// zero tells whether r is what stands beside an error.
func zero(r rec.Record) bool {
	return r.Site == 0 && r.Seq == 0 && len(r.Dep) == 0 && r.Key == "" && r.Val == ""
}

// TestParseTellsTheFirst puts wrong parts beside each other: a form counts more than vec's limits, those more than Check.
func TestParseTellsTheFirst(t *testing.T) {
	for s, want := range map[string]api.Errno{
		"x:1 [1048577] a=":             api.ErrForm,
		"0:x [1048577] a=":             api.ErrForm,
		"0:1 [1048577]a=":              api.ErrForm,
		"0:1 [1048577] a":              api.ErrForm,
		"0:2147483648 [1048577] A=":    api.ErrForm,
		"8:1 [] A":                     api.ErrForm,
		"8:1 [x] A=":                   api.ErrForm,
		"8:1 [1048577] a=":             api.ErrLong,
		"0:0 [1048577] A= ":            api.ErrLong,
		"0:1 [1048577] a= ":            api.ErrLong,
		"8:0 [1] A= ":                  api.ErrArg,
		"0:1 [1] A= ":                  api.ErrOrder,
		"0:1 [] A= ":                   api.ErrName,
		"0:1 [] a=12345678901234567 ":  api.ErrForm,
		"0:1 [] a=12345678901234567]=": api.ErrLong,
	} {
		if r, e := rec.Parse(s); e != want || !zero(r) {
			t.Errorf("P4, P6: Parse(%q) = %v, %v, want %v", s, r, e, want)
		}
	}
}

// TestParseJustSoWritten puts each sign into each place of a text, and takes each away, against the form as an expression.
func TestParseJustSoWritten(t *testing.T) {
	form := regexp.MustCompile(`^[0-7]:[1-9][0-9]* \[(((0|[1-9][0-9]*) )*[1-9][0-9]*)?\] [a-z0-9]{1,8}=[!-~]{0,16}$`)
	try := func(s string) {
		r, e := rec.Parse(s)
		if e == api.OK && (!form.MatchString(s) || rec.Text(r) != s || rec.Check(r, api.MaxSites) != api.OK) {
			t.Errorf("P201: Parse(%q) = %v", s, r)
		}
		if e != api.OK && e != api.ErrArg && e != api.ErrLong && e != api.ErrOrder && form.MatchString(s) {
			t.Errorf("P201: Parse(%q) = %v", s, e)
		}
	}
	for _, s := range []string{"1:3 [5 2] k9=a=b]", "0:1 [] a=", "7:20 [0 0 10] z=:"} {
		for i := range len(s) + 1 {
			try(s[:i])
			try(s[i:])
			for c := range 256 {
				one := string([]byte{byte(c)})
				try(s[:i] + one + s[i:])
				if i < len(s) {
					try(s[:i] + one + s[i+1:])
				}
			}
			if i < len(s) {
				try(s[:i] + s[i+1:])
			}
		}
	}
}

func FuzzParse(f *testing.F) {
	f.Add("1:3 [5 2] k9=a=b]")
	f.Add("0:1 [] a=")
	f.Fuzz(func(t *testing.T, s string) {
		r, e := rec.Parse(s)
		if e == api.OK && (rec.Text(r) != s || rec.Check(r, api.MaxSites) != api.OK) || e != api.OK && !zero(r) {
			t.Errorf("P201: Parse(%q) = %v, %v", s, r, e)
		}
	})
}

// told writes down what a sequence goes over, at most most of it.
func told(seq iter.Seq2[int, rec.Record], most int) string {
	out := ""
	for i, r := range seq {
		out += fmt.Sprint(i, "=", rec.Text(r), ";")
		if most--; most == 0 {
			break
		}
	}
	return out
}

// list answers records of some sites, with memory of their own.
func list() []rec.Record {
	return []rec.Record{
		{Site: 0, Seq: 9, Dep: vec.Vec{1}, Key: "a", Val: "x"},
		{Site: 1, Seq: 1, Dep: vec.Vec{0, 0, 2}, Key: "b"},
		{Site: 0, Seq: 2, Dep: vec.Vec{0, 3}, Key: "c"},
		{Site: -1, Seq: -4, Key: "?"},
		{Site: 0, Seq: 2, Dep: nil, Key: "d"},
	}
}

func TestOf(t *testing.T) {
	for _, c := range []struct {
		l          []rec.Record
		site, most int
		want       string
	}{
		{list(), 0, 9, "0=0:9 [1] a=x;2=0:2 [0 3] c=;4=0:2 [] d=;"},
		{list(), 0, 3, "0=0:9 [1] a=x;2=0:2 [0 3] c=;4=0:2 [] d=;"},
		{list(), 0, 2, "0=0:9 [1] a=x;2=0:2 [0 3] c=;"},
		{list(), 0, 1, "0=0:9 [1] a=x;"},
		{list(), 1, 9, "1=1:1 [0 0 2] b=;"},
		{list(), 2, 9, ""},
		{list(), math.MinInt, 9, ""},
		{list(), math.MaxInt, 9, ""},
		{nil, 0, 9, ""},
		{[]rec.Record{}, 0, 9, ""},
	} {
		if got := told(rec.Of(c.l, c.site), c.most); got != c.want {
			t.Errorf("P201: Of site %d, %d of it: %q, want %q", c.site, c.most, got, c.want)
		}
	}
}

func TestOfStopsAtTheFirstNo(t *testing.T) {
	asked := 0
	rec.Of(list(), 0)(func(int, rec.Record) bool { asked++; return false })
	if asked != 1 {
		t.Errorf("P7: asked %d times behind a false", asked)
	}
}

func TestOfGoesOverWhatWasThen(t *testing.T) {
	l := list()
	seq := rec.Of(l, 0)
	want := told(seq, 9)
	for i := range l {
		for k := range l[i].Dep {
			l[i].Dep[k] = 77
		}
		l[i] = rec.Record{Site: 0, Seq: 1}
	}
	for range 2 {
		if got := told(seq, 1); got != "0=0:9 [1] a=x;" {
			t.Errorf("P7: left early: %q", got)
		}
		if got := told(seq, 9); got != want {
			t.Errorf("P7: ranged over again: %q, want %q", got, want)
		}
	}
}

func TestOfHandsOutNewMemory(t *testing.T) {
	l := list()
	before := fmt.Sprint(l)
	seq := rec.Of(l, 0)
	want := told(seq, 9)
	for _, r := range seq {
		room := r.Dep[:cap(r.Dep)]
		for k := range room {
			room[k] = 55
		}
	}
	if got := fmt.Sprint(l); got != before {
		t.Errorf("P2: what was told of is memory of what was handed in: %s", got)
	}
	if got := told(seq, 9); got != want {
		t.Errorf("P7: what was told of is memory of the sequence: %q", got)
	}
}

// TestOfLeavesSpareRoom hands in records whose Deps are pieces of one memory.
func TestOfLeavesSpareRoom(t *testing.T) {
	whole := vec.Vec{1, 2, 3, 4}
	l := []rec.Record{{Seq: 1, Dep: whole[:1]}, {Seq: 2, Dep: whole[:3]}}
	for _, r := range rec.Of(l, 0) {
		r.Dep = append(r.Dep, 66)
		r.Dep[0] = 66
	}
	if !slices.Equal(whole, vec.Vec{1, 2, 3, 4}) {
		t.Errorf("P2: %v", whole)
	}
}

func TestNothingHandedInIsChanged(t *testing.T) {
	whole := vec.Vec{5, 2, 77, 77}
	r := with(func(r *rec.Record) { r.Dep = whole[:2] })
	rec.Check(r, 8)
	rec.Before(r, r)
	rec.Same(r, with(func(r *rec.Record) { r.Dep = whole }))
	rec.Text(r)
	if !slices.Equal(whole, vec.Vec{5, 2, 77, 77}) {
		t.Errorf("P2: %v", whole)
	}
}

func TestParseAnswersNewMemory(t *testing.T) {
	s := rec.Text(good())
	a, _ := rec.Parse(s)
	for i := range a.Dep[:cap(a.Dep)] {
		a.Dep[:cap(a.Dep)][i] = 55
	}
	if b, e := rec.Parse(s); e != api.OK || !rec.Same(b, good()) {
		t.Errorf("P2, P3: %v, %v", b, e)
	}
}

func TestParseKeepsNothingOfItsText(t *testing.T) {
	memory := []byte(rec.Text(good()))
	r, e := rec.Parse(unsafe.String(&memory[0], len(memory)))
	for i := range memory {
		memory[i] = '?'
	}
	if e != api.OK || !rec.Same(r, good()) {
		t.Errorf("P2: %v, %v", r, e)
	}
}

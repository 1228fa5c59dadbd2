package token_test

import (
	"fmt"
	"math"
	"slices"
	"strings"
	"testing"

	"landau/api"
	"landau/rec"
	"landau/token"
	"landau/vec"
)

// own answers a draft of site 0 that waits.
func own(ticket int, dep ...int) token.Draft {
	return token.Draft{Ticket: ticket, Rec: rec.Record{Dep: dep, Key: "own", Val: fmt.Sprint("t", ticket)}}
}

// far answers a draft of another site.
func far(site, seq int, dep ...int) token.Draft {
	return token.Draft{Rec: rec.Record{Site: site, Seq: seq, Dep: dep, Key: "far"}}
}

// numbered answers a draft of site 0 that has a Seq.
func numbered(ticket, seq int) token.Draft {
	d := own(ticket)
	d.Rec.Seq = seq
	return d
}

// named answers d with a Val, so that it is told from those that are else like it.
func named(d token.Draft, val string) token.Draft {
	d.Rec.Val = val
	return d
}

func draftText(d token.Draft) string {
	return fmt.Sprint(d.Ticket, "/", rec.Text(d.Rec))
}

func draftsText(l []token.Draft) string {
	var out []string
	for _, d := range l {
		out = append(out, draftText(d))
	}
	return strings.Join(out, "; ")
}

func slotsText(l []token.Slot) string {
	var out []string
	for _, s := range l {
		out = append(out, fmt.Sprint(s.Pos, "=", draftText(s.D)))
	}
	return strings.Join(out, "; ")
}

// told tells all that Admit answers.
func told(t token.Token, slots []token.Slot) string {
	return fmt.Sprint(slotsText(slots), " | own ", t.Own, " next ", t.Next, " seen ", vec.Text(t.Seen), " late ", draftsText(t.Late))
}

func TestMay(t *testing.T) {
	for _, c := range []struct {
		name string
		tok  token.Token
		d    token.Draft
		want bool
	}{
		{"own", token.Token{Seen: vec.Vec{2, 3}}, own(1), true},
		{"own, of nothing", token.Token{}, own(1), true},
		{"own, the greatest of tickets", token.Token{}, own(math.MaxInt), true},
		{"own, numbered", token.Token{Seen: vec.Vec{2, 3}}, numbered(1, 3), false},
		{"own, numbered as seen", token.Token{Seen: vec.Vec{2, 3}}, numbered(1, 2), false},
		{"own, numbered the first", token.Token{}, numbered(1, 1), false},
		{"own, numbered below 0", token.Token{}, numbered(1, -1), false},
		{"own, the last", token.Token{Seen: vec.Vec{api.MaxSeq - 1}}, own(1), true},
		{"own, past the last", token.Token{Seen: vec.Vec{api.MaxSeq}}, own(1), false},
		{"own, another is at the last", token.Token{Seen: vec.Vec{0, api.MaxSeq}}, own(1), true},
		{"own, of site 7", token.Token{Own: 7, Seen: vec.Vec{2, 3}}, far(7, 0), true},
		{"own, of site 7, numbered", token.Token{Own: 7, Seen: vec.Vec{2, 3}}, far(7, 1), false},
		{"own, of site 7, past the last", token.Token{Own: 7, Seen: vec.Vec{7: api.MaxSeq}}, far(7, 0), false},
		{"own, hangs on what is seen", token.Token{Seen: vec.Vec{2, 3}}, own(1, 2, 3), true},
		{"own, hangs on less", token.Token{Seen: vec.Vec{2, 3}}, own(1, 1, 2), true},
		{"own, hangs on nought of one who is not there", token.Token{Seen: vec.Vec{2, 3}}, own(1, 2, 3, 0), true},
		{"own, hangs on more of its own", token.Token{Seen: vec.Vec{2, 3}}, own(1, 3), false},
		{"own, hangs on more of another", token.Token{Seen: vec.Vec{2, 3}}, own(1, 0, 4), false},
		{"own, hangs on one who is not there", token.Token{Seen: vec.Vec{2, 3}}, own(1, 0, 0, 1), false},
		{"far", token.Token{Seen: vec.Vec{2, 3}}, far(1, 4), true},
		{"far, the first", token.Token{Seen: vec.Vec{2, 3}}, far(2, 1), true},
		{"far, the first of all", token.Token{}, far(7, 1), true},
		{"far, of site 0", token.Token{Own: 1, Seen: vec.Vec{2, 3}}, far(0, 3), true},
		{"far, of site 0, without a number", token.Token{Own: 1, Seen: vec.Vec{2, 3}}, far(0, 0), false},
		{"far, seen", token.Token{Seen: vec.Vec{2, 3}}, far(1, 3), false},
		{"far, seen long since", token.Token{Seen: vec.Vec{2, 3}}, far(1, 1), false},
		{"far, behind a gap", token.Token{Seen: vec.Vec{2, 3}}, far(1, 5), false},
		{"far, far behind a gap", token.Token{Seen: vec.Vec{2, 3}}, far(1, api.MaxSeq), false},
		{"far, without a number", token.Token{Seen: vec.Vec{2, 3}}, far(2, 0), false},
		{"far, the last", token.Token{Seen: vec.Vec{2, api.MaxSeq - 1}}, far(1, api.MaxSeq), true},
		{"far, the last, seen", token.Token{Seen: vec.Vec{2, api.MaxSeq}}, far(1, api.MaxSeq), false},
		{"far, the own site is at the last", token.Token{Seen: vec.Vec{api.MaxSeq, 3}}, far(1, 4), true},
		{"far, hangs on what is seen", token.Token{Seen: vec.Vec{2, 3}}, far(2, 1, 2, 3), true},
		{"far, hangs on more", token.Token{Seen: vec.Vec{2, 3}}, far(2, 1, 0, 4), false},
		{"far, hangs on more of this one", token.Token{Seen: vec.Vec{2, 3}}, far(1, 4, 3), false},
		{"far, hangs on those of its own ahead", token.Token{Seen: vec.Vec{2, 3}}, far(1, 4, 2, 3), true},
	} {
		if got := token.May(c.tok, c.d); got != c.want {
			t.Errorf("P901: May of %s: %s at %s = %v", c.name, draftText(c.d), vec.Text(c.tok.Seen), got)
		}
	}
}

// TestMayOfAllSites goes through what each site may see of each other, of their next ones and those about them.
func TestMayOfAllSites(t *testing.T) {
	for mine := range api.MaxSites {
		for site := range api.MaxSites {
			for seq := range 6 {
				for hangs := range 5 {
					tok := token.Token{Own: mine, Seen: vec.Vec{3, 3, 3, 3, 3, 3, 3, 3}}
					d := far(site, seq, vec.With(nil, (site+1)%8, hangs)...)
					want := hangs <= 3 && (site != mine && seq == 4 || site == mine && seq == 0)
					if got := token.May(tok, d); got != want {
						t.Errorf("P901: own %d: May of %s = %v", mine, draftText(d), got)
					}
				}
			}
		}
	}
}

// TestMayLooksAtNoLate: neither Late nor Next bears on what may be.
func TestMayLooksAtNoLate(t *testing.T) {
	for _, next := range []int{0, 5, math.MaxInt} {
		tok := token.Token{Next: next, Late: []token.Draft{own(1), far(1, 1), far(1, 2)}}
		if !token.May(tok, own(1)) || !token.May(tok, far(1, 1)) || token.May(tok, far(1, 2)) {
			t.Errorf("P901: Next %d: own %v, 1:1 %v, 1:2 %v", next, token.May(tok, own(1)), token.May(tok, far(1, 1)), token.May(tok, far(1, 2)))
		}
	}
}

func TestAdmit(t *testing.T) {
	for _, c := range []struct {
		name string
		tok  token.Token
		l    []token.Draft
		want string
	}{
		{"nothing", token.Token{}, nil,
			" | own 0 next 0 seen [] late "},
		{"nothing, of one that has come far", token.Token{Own: 5, Next: 9, Seen: vec.Vec{3, 0, 6}}, nil,
			" | own 5 next 9 seen [3 0 6] late "},
		{"an own one", token.Token{}, []token.Draft{own(7)},
			"0=7/0:1 [] own=t7 | own 0 next 1 seen [1] late "},
		{"own ones, further on", token.Token{Next: 7, Seen: vec.Vec{4, 2}}, []token.Draft{own(9), own(2, 4, 2)},
			"7=9/0:5 [] own=t9; 8=2/0:6 [4 2] own=t2 | own 0 next 9 seen [6 2] late "},
		{"an own one of a site without records yet", token.Token{Own: 3, Next: 1, Seen: vec.Vec{1}}, []token.Draft{{Ticket: 4, Rec: rec.Record{Site: 3, Key: "k", Val: "v"}}},
			"1=4/3:1 [] k=v | own 3 next 2 seen [1 0 0 1] late "},
		{"far ones", token.Token{Next: 3, Seen: vec.Vec{1, 2}}, []token.Draft{far(1, 3, 1), far(4, 1)},
			"3=0/1:3 [1] far=; 4=0/4:1 [] far= | own 0 next 5 seen [1 3 0 0 1] late "},
		{"Late comes ahead of what is new", token.Token{Late: []token.Draft{own(1), far(1, 1)}}, []token.Draft{own(2), far(2, 1)},
			"0=1/0:1 [] own=t1; 1=0/1:1 [] far=; 2=2/0:2 [] own=t2; 3=0/2:1 [] far= | own 0 next 4 seen [2 1 1] late "},
		{"Late comes ahead once it may be", token.Token{Late: []token.Draft{own(1, 0, 1)}}, []token.Draft{own(2), far(1, 1), own(3)},
			"0=2/0:1 [] own=t2; 1=0/1:1 [] far=; 2=1/0:2 [0 1] own=t1; 3=3/0:3 [] own=t3 | own 0 next 4 seen [3 1] late "},
		{"from the first one on again at each", token.Token{}, []token.Draft{far(3, 1, 0, 0, 1), far(2, 1, 0, 1), own(1, 0, 0, 0, 1), far(1, 1), own(2)},
			"0=0/1:1 [] far=; 1=0/2:1 [0 1] far=; 2=0/3:1 [0 0 1] far=; 3=1/0:1 [0 0 0 1] own=t1; 4=2/0:2 [] own=t2 | own 0 next 5 seen [2 1 1 1] late "},
		{"an own one hangs on another that has no number yet", token.Token{}, []token.Draft{own(1, 2), own(2, 1), own(3)},
			"0=3/0:1 [] own=t3; 1=2/0:2 [1] own=t2; 2=1/0:3 [2] own=t1 | own 0 next 3 seen [3] late "},
		{"what may not be yet is Late, in order", token.Token{Next: 2, Late: []token.Draft{far(5, 9), own(3, 0, 7)}}, []token.Draft{far(1, 3), own(1), far(2, 1, 9), own(2, 9)},
			"2=1/0:1 [] own=t1 | own 0 next 3 seen [1] late 0/5:9 [] far=; 3/0:0 [0 7] own=t3; 0/1:3 [] far=; 0/2:1 [9] far=; 2/0:0 [9] own=t2"},
		{"the same own ones wait each", token.Token{}, []token.Draft{own(1, 9), own(1, 9)},
			" | own 0 next 0 seen [] late 1/0:0 [9] own=t1; 1/0:0 [9] own=t1"},
		{"an own one waits behind the last", token.Token{Next: 4, Seen: vec.Vec{api.MaxSeq - 1}}, []token.Draft{own(1), own(2), far(1, 1)},
			"4=1/0:1048576 [] own=t1; 5=0/1:1 [] far= | own 0 next 6 seen [1048576 1] late 2/0:0 [] own=t2"},
		{"the last of another", token.Token{Seen: vec.Vec{0, api.MaxSeq - 1}}, []token.Draft{far(1, api.MaxSeq), far(1, api.MaxSeq)},
			"0=0/1:1048576 [] far= | own 0 next 1 seen [0 1048576] late "},
		{"Next may be great", token.Token{Next: 1<<31 - 3}, []token.Draft{own(1), own(2)},
			"2147483645=1/0:1 [] own=t1; 2147483646=2/0:2 [] own=t2 | own 0 next 2147483647 seen [2] late "},
	} {
		if got := told(token.Admit(c.tok, c.l)); got != c.want {
			t.Errorf("P901: %s:\n%s; want\n%s", c.name, got, c.want)
		}
	}
}

// TestAdmitLetsGo: what is twice there, what came already, and own ones with a number go.
func TestAdmitLetsGo(t *testing.T) {
	for _, c := range []struct {
		name string
		tok  token.Token
		l    []token.Draft
		want string
	}{
		{"a far one twice, of those that are new", token.Token{}, []token.Draft{named(far(1, 3), "a"), far(1, 4), named(far(1, 3), "b")},
			" | own 0 next 0 seen [] late 0/1:3 [] far=a; 0/1:4 [] far="},
		{"a far one twice, in Late and new", token.Token{Late: []token.Draft{named(far(1, 3), "a")}}, []token.Draft{named(far(1, 3, 0, 0, 5), "b")},
			" | own 0 next 0 seen [] late 0/1:3 [] far=a"},
		{"a far one twice, in Late", token.Token{Late: []token.Draft{named(far(1, 3), "a"), named(far(1, 3), "b")}}, nil,
			" | own 0 next 0 seen [] late 0/1:3 [] far=a"},
		{"many of one", token.Token{}, []token.Draft{far(1, 3), far(1, 3), far(1, 3), far(1, 3)},
			" | own 0 next 0 seen [] late 0/1:3 [] far="},
		{"the same Seq of two sites", token.Token{}, []token.Draft{far(1, 3), far(2, 3)},
			" | own 0 next 0 seen [] late 0/1:3 [] far=; 0/2:3 [] far="},
		{"one that is admitted, again", token.Token{}, []token.Draft{named(far(1, 1), "a"), named(far(1, 1), "b")},
			"0=0/1:1 [] far=a | own 0 next 1 seen [0 1] late "},
		{"the second may be, the first may not", token.Token{}, []token.Draft{named(far(1, 1, 0, 0, 1), "a"), named(far(1, 1), "b")},
			"0=0/1:1 [] far=b | own 0 next 1 seen [0 1] late "},
		{"those that were seen", token.Token{Seen: vec.Vec{0, 5}, Late: []token.Draft{far(1, 5)}}, []token.Draft{far(1, 4), far(1, 1, 9), far(1, 0), far(1, 7)},
			" | own 0 next 0 seen [0 5] late 0/1:7 [] far="},
		{"a far one without a number, of a site without records", token.Token{}, []token.Draft{far(1, 0), far(2, -1)},
			" | own 0 next 0 seen [] late "},
		{"own ones with a number", token.Token{Seen: vec.Vec{2}, Late: []token.Draft{numbered(3, 3)}}, []token.Draft{numbered(4, 2), numbered(5, 1), numbered(6, 9), numbered(7, -1), own(8, 0, 1)},
			" | own 0 next 0 seen [2] late 8/0:0 [0 1] own=t8"},
		{"site 0, where it is another one", token.Token{Own: 2, Seen: vec.Vec{2}}, []token.Draft{numbered(0, 3), numbered(0, 5), far(2, 3), far(0, 0)},
			"0=0/0:3 [] own=t0 | own 2 next 1 seen [3] late 0/0:5 [] own=t0"},
		{"an own one waits, whatever is seen of it", token.Token{Seen: vec.Vec{5}}, []token.Draft{own(1, 0, 1), own(2, 0, 1)},
			" | own 0 next 0 seen [5] late 1/0:0 [0 1] own=t1; 2/0:0 [0 1] own=t2"},
	} {
		if got := told(token.Admit(c.tok, c.l)); got != c.want {
			t.Errorf("P901: %s:\n%s; want\n%s", c.name, got, c.want)
		}
	}
}

// TestAdmitChains holds long lists of which each hangs on the one behind it, on the one ahead, or on nothing.
func TestAdmitChains(t *testing.T) {
	const size = 2000
	var rising, falling []token.Draft
	for n := range size {
		rising = append(rising, far(1, n+1))
		falling = append(falling, far(1, size-n))
	}
	for name, l := range map[string][]token.Draft{"rising": rising, "falling": falling} {
		tok, slots := token.Admit(token.Token{Next: 5}, l)
		if len(slots) != size || tok.Next != size+5 || vec.Text(tok.Seen) != "[0 2000]" || len(tok.Late) != 0 {
			t.Errorf("P901: %s: %d slots, Next %d, Seen %s, %d Late", name, len(slots), tok.Next, vec.Text(tok.Seen), len(tok.Late))
		}
		for i, s := range slots {
			if s.Pos != i+5 || s.D.Rec.Seq != i+1 {
				t.Fatalf("P901: %s: slot %d is %d=%s", name, i, s.Pos, draftText(s.D))
			}
		}
	}
	tok, slots := token.Admit(token.Token{Seen: vec.Vec{0, 2}, Late: falling[:size-2]}, nil)
	if len(slots) != size-2 || len(tok.Late) != 0 {
		t.Errorf("P901: %d slots, %d Late", len(slots), len(tok.Late))
	}
	tok, slots = token.Admit(token.Token{Late: falling[:size-1]}, falling[:size-1])
	if len(slots) != 0 || len(tok.Late) != size-1 || draftText(tok.Late[0]) != "0/1:2000 [] far=" {
		t.Errorf("P901: without the first: %d slots, %d Late", len(slots), len(tok.Late))
	}
}

// TestAdmitBitByBit: what waits for one that has not come goes on once it comes.
func TestAdmitBitByBit(t *testing.T) {
	tok, slots := token.Admit(token.Token{}, []token.Draft{far(1, 2), own(1, 0, 2), far(2, 2, 0, 1)})
	if got := told(tok, slots); got != " | own 0 next 0 seen [] late 0/1:2 [] far=; 1/0:0 [0 2] own=t1; 0/2:2 [0 1] far=" {
		t.Fatalf("P901: %s", got)
	}
	tok, slots = token.Admit(tok, []token.Draft{far(2, 1), far(1, 1), far(1, 2)})
	if got := told(tok, slots); got != "0=0/2:1 [] far=; 1=0/1:1 [] far=; 2=0/1:2 [] far=; 3=1/0:1 [0 2] own=t1; 4=0/2:2 [0 1] far= | own 0 next 5 seen [1 2 2] late " {
		t.Fatalf("P901: %s", got)
	}
	tok, slots = token.Admit(tok, []token.Draft{far(2, 1), far(1, 1), own(2)})
	if got := told(tok, slots); got != "5=2/0:2 [] own=t2 | own 0 next 6 seen [2 2 2] late " {
		t.Fatalf("P901: %s", got)
	}
}

func TestCheck(t *testing.T) {
	eight := vec.Vec{1, 2, 3, 4, 5, 6, 7, 8}
	full := vec.Vec{api.MaxSeq, 0, api.MaxSeq}
	nine := make(vec.Vec, 9)
	for _, c := range []struct {
		tok  token.Token
		want api.Errno
	}{
		{token.Token{}, api.OK},
		{token.Token{Seen: vec.Vec{}, Late: []token.Draft{}}, api.OK},
		{token.Token{Own: 7, Next: math.MaxInt, Seen: eight}, api.OK},
		{token.Token{Seen: full}, api.OK},
		{token.Token{Own: 7, Seen: vec.Vec{1}}, api.OK},
		{token.Token{Late: []token.Draft{far(99, -5, -3), numbered(-1, 7), own(1)}}, api.OK},
		{token.Token{Own: 8}, api.ErrArg},
		{token.Token{Own: -1}, api.ErrArg},
		{token.Token{Own: math.MaxInt}, api.ErrArg},
		{token.Token{Own: math.MinInt}, api.ErrArg},
		{token.Token{Next: -1}, api.ErrArg},
		{token.Token{Next: math.MinInt}, api.ErrArg},
		{token.Token{Seen: vec.Vec{0, -1}}, api.ErrArg},
		{token.Token{Seen: vec.Vec{0, math.MinInt}}, api.ErrArg},
		{token.Token{Seen: vec.Vec{0, api.MaxSeq + 1}}, api.ErrLong},
		{token.Token{Seen: vec.Vec{math.MaxInt}}, api.ErrLong},
		{token.Token{Seen: nine}, api.ErrLong},
		// Several at once: the first that is named, and of Seen the first site's.
		{token.Token{Own: 8, Seen: nine}, api.ErrArg},
		{token.Token{Own: -1, Seen: vec.Vec{api.MaxSeq + 1}}, api.ErrArg},
		{token.Token{Next: -1, Seen: nine}, api.ErrArg},
		{token.Token{Next: -1, Seen: vec.Vec{api.MaxSeq + 1}}, api.ErrArg},
		{token.Token{Seen: append(vec.Vec{-1}, nine...)}, api.ErrLong},
		{token.Token{Seen: vec.Vec{-1, api.MaxSeq + 1}}, api.ErrArg},
		{token.Token{Seen: vec.Vec{api.MaxSeq + 1, -1}}, api.ErrLong},
	} {
		if e := token.Check(c.tok); e != c.want {
			t.Errorf("P901, P6: Check of own %d, next %d, seen %v = %v, want %v", c.tok.Own, c.tok.Next, c.tok.Seen, e, c.want)
		}
	}
}

// spare answers l with room behind it, and the whole of its memory.
func spare[T any](l []T, behind T) (some, whole []T) {
	whole = append(slices.Clone(l), behind, behind, behind)
	return whole[:len(l):len(whole)], whole
}

// given is what a call is handed, with the whole of its memory.
type given struct {
	tok       token.Token
	l         []token.Draft
	late, new []token.Draft
	seen, dep vec.Vec
}

// handed answers a token and a list of which some are admitted, some wait and some go. All hang on one Dep's memory.
func handed() given {
	var g given
	dep, whole := spare([]int{0, 1}, 66)
	g.dep = whole
	hung := func(d token.Draft, size int) token.Draft {
		d.Rec.Dep = dep[:size]
		return d
	}
	g.tok.Next = 3
	g.tok.Seen, g.seen = spare(vec.Vec{2}, 77)
	g.tok.Late, g.late = spare([]token.Draft{hung(own(1), 2), hung(far(3, 9), 2), hung(far(1, 1), 1), hung(numbered(2, 9), 0)}, named(far(1, 2), "spare"))
	g.l, g.new = spare([]token.Draft{hung(far(1, 1), 0), hung(own(3), 0), hung(far(2, 2), 2), hung(own(4, 9), 2), hung(far(3, 9), 1)}, named(own(9), "spare"))
	return g
}

func (g given) String() string {
	return fmt.Sprint(g.dep, g.seen, draftsText(g.late), " ", draftsText(g.new))
}

// lists are all the lists of numbers that an answer has, with their spare room.
func lists(tok token.Token, slots []token.Slot) []vec.Vec {
	out := []vec.Vec{tok.Seen}
	for _, d := range tok.Late {
		out = append(out, d.Rec.Dep)
	}
	for _, s := range slots {
		out = append(out, s.D.Rec.Dep)
	}
	for i, v := range out {
		out[i] = v[:cap(v)]
	}
	return out
}

func TestAdmitChangesNothing(t *testing.T) {
	g := handed()
	before := g.String()
	got := told(token.Admit(g.tok, g.l))
	token.May(g.tok, g.l[0])
	token.May(g.tok, g.tok.Late[0])
	token.Check(g.tok)
	if g.String() != before {
		t.Errorf("P2: what was handed in is\n%s, was\n%s", g, before)
	}
	if again := told(token.Admit(g.tok, g.l)); again != got {
		t.Errorf("P3: %s, then %s", got, again)
	}
}

func TestAnswersAreNewMemory(t *testing.T) {
	g := handed()
	tok, slots := token.Admit(g.tok, g.l)
	if len(tok.Late) < 2 || len(slots) < 2 {
		t.Fatalf("P901: %s", told(tok, slots))
	}
	before := told(tok, slots)
	for i := range g.dep {
		g.dep[i] = 55
	}
	for i := range g.seen {
		g.seen[i] = 55
	}
	for _, l := range [][]token.Draft{g.late, g.new} {
		for i := range l {
			l[i] = far(5, 5)
		}
	}
	if got := told(tok, slots); got != before {
		t.Errorf("P2: Admit keeps what it was given: %s, was %s", got, before)
	}
	was := g.String()
	all := lists(tok, slots)
	for i, v := range all {
		for k := range v {
			v[k] = 100 + i
		}
	}
	for i, v := range all {
		if slices.ContainsFunc(v, func(n int) bool { return n != 100+i }) {
			t.Errorf("P2: two lists of an answer have one memory: %v", all)
		}
	}
	late := tok.Late[:cap(tok.Late)]
	for i := range late {
		late[i] = far(6, 6)
	}
	if g.String() != was {
		t.Errorf("P2: Admit hands out what it was given: %s, was %s", g, was)
	}
}

// TestAdmitOfNothingIsNewMemory: the Seen of a token at which nothing was done is another one, too.
func TestAdmitOfNothingIsNewMemory(t *testing.T) {
	tok := token.Token{Seen: vec.Vec{3, 4}, Late: []token.Draft{own(1, 9)}}
	got, _ := token.Admit(tok, nil)
	got.Seen[0], got.Late[0].Ticket, got.Late[0].Rec.Dep[0] = 7, 7, 7
	if tok.Seen[0] != 3 || tok.Late[0].Ticket != 1 || tok.Late[0].Rec.Dep[0] != 9 {
		t.Errorf("P2: Admit of nothing hands out what it was given: %v", tok)
	}
}

// TestNoListAndAnEmptyOne are the same.
func TestNoListAndAnEmptyOne(t *testing.T) {
	l := []token.Draft{own(1), far(1, 1), far(1, 3)}
	none, empty := token.Token{}, token.Token{Seen: vec.Vec{}, Late: []token.Draft{}}
	bare := slices.Clone(l)
	for i := range bare {
		bare[i].Rec.Dep = vec.Vec{}
	}
	for _, x := range [][2]string{
		{told(token.Admit(none, nil)), told(token.Admit(empty, []token.Draft{}))},
		{told(token.Admit(none, l)), told(token.Admit(empty, bare))},
		{fmt.Sprint(token.May(none, l[1])), fmt.Sprint(token.May(empty, bare[1]))},
		{token.Check(none).Error(), token.Check(empty).Error()},
	} {
		if x[0] != x[1] {
			t.Errorf("P2: of none %s, of an empty one %s", x[0], x[1])
		}
	}
}

// TestWildOnesEnd hands in numbers that may not be, by all there are: calls end, and change nothing.
func TestWildOnesEnd(t *testing.T) {
	wild := []int{0, 1, -1, 7, 8, 63, 64, api.MaxSeq, api.MaxSeq + 1, math.MaxInt, math.MinInt, math.MaxInt - 1, math.MinInt + 1}
	for _, mine := range wild {
		for _, n := range wild {
			tok := token.Token{Own: mine, Next: n, Seen: vec.Vec{n, 0, -n, n}}
			var l []token.Draft
			for _, site := range wild {
				for _, seq := range wild {
					d := far(site, seq, 0, 0, -seq)
					l = append(l, d, d, far(site, seq))
					token.May(tok, d)
				}
			}
			tok.Late = slices.Clone(l[:50])
			before := fmt.Sprint(tok, l)
			got, slots := token.Admit(tok, l)
			if token.Check(tok); fmt.Sprint(tok, l) != before {
				t.Errorf("P2: own %d, %d: what was handed in is changed", mine, n)
			}
			if again, more := token.Admit(tok, l); fmt.Sprint(got, slots) != fmt.Sprint(again, more) {
				t.Errorf("P3: own %d, %d: another answer", mine, n)
			}
		}
	}
}

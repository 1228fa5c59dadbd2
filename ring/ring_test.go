package ring_test

import (
	"fmt"
	"math"
	"slices"
	"strings"
	"testing"
	"unsafe"

	"landau/api"
	"landau/rec"
	"landau/ring"
	"landau/token"
	"landau/vec"
)

// own answers a draft of site 0 that waits.
func own(ticket int, dep ...int) token.Draft {
	return token.Draft{Ticket: ticket, Rec: rec.Record{Dep: dep, Key: "own", Val: fmt.Sprint("t", ticket)}}
}

// far answers a draft of another site.
func far(site, seq int, dep ...int) token.Draft {
	return token.Draft{Rec: rec.Record{Site: site, Seq: seq, Dep: dep, Key: "far"}}
}

// numbered answers a draft of site 0 that has a Seq.
func numbered(ticket, seq int) token.Draft {
	d := own(ticket)
	d.Rec.Seq = seq
	return d
}

// named answers d with a Val, so that it is told from those that are else like it.
func named(d token.Draft, val string) token.Draft {
	d.Rec.Val = val
	return d
}

func draftText(d token.Draft) string {
	return fmt.Sprint(d.Ticket, "/", rec.Text(d.Rec))
}

func draftsText(l []token.Draft) string {
	var out []string
	for _, d := range l {
		out = append(out, draftText(d))
	}
	return strings.Join(out, "; ")
}

func slotsText(l []token.Slot) string {
	var out []string
	for _, s := range l {
		out = append(out, fmt.Sprint(s.Pos, "=", draftText(s.D)))
	}
	return strings.Join(out, "; ")
}

func tokenText(t token.Token) string {
	return fmt.Sprint("own ", t.Own, " next ", t.Next, " seen ", vec.Text(t.Seen), " late ", draftsText(t.Late))
}

// tickets tells the tickets of what was given a position; those of other sites have 0.
func tickets(l []token.Slot) []int {
	var out []int
	for _, s := range l {
		out = append(out, s.D.Ticket)
	}
	return out
}

func made(t testing.TB, own, queues, room int) *ring.Ring {
	t.Helper()
	r, e := ring.New(own, queues, room)
	if e != api.OK || r == nil {
		t.Fatalf("P1001: New(%d, %d, %d) = %v, %v", own, queues, room, r, e)
	}
	return r
}

func fill(t testing.TB, r *ring.Ring, q int, l ...token.Draft) {
	t.Helper()
	for _, d := range l {
		if e := r.Put(q, d); e != api.OK {
			t.Fatalf("P1001: Put(%d, %s) = %v", q, draftText(d), e)
		}
	}
}

// began answers a ring of site 0 that goes on with a token.
func began(t testing.TB, queues, room int, tok token.Token) *ring.Ring {
	t.Helper()
	r := made(t, tok.Own, queues, room)
	if e := r.Begin(tok); e != api.OK {
		t.Fatalf("P1001: Begin(%s) = %v", tokenText(tok), e)
	}
	return r
}

// lates answers so many own drafts that wait for 7:1.
func lates(n int) []token.Draft {
	l := make([]token.Draft, n)
	for i := range l {
		l[i] = own(1000+i, 0, 0, 0, 0, 0, 0, 0, 1)
	}
	return l
}

// told tells all that may be told of a ring: where the token is, what it has, what each queue takes, and what comes
// of two rounds. It asks twins.
func told(r *ring.Ring) string {
	out := fmt.Sprint(r.Len(), " at ", r.At(), " ", tokenText(r.Token()), " |")
	for q := range api.MaxQueues + 1 {
		twin, takes := r.Twin(), 0
		e := twin.Put(q, own(99))
		for ; e == api.OK; e = twin.Put(q, own(99)) {
			takes++
		}
		out += fmt.Sprint(" ", takes, " ", e)
	}
	out += " | "
	twin := r.Twin()
	for range 2 * api.MaxQueues {
		slots := twin.Turn()
		out += fmt.Sprint(twin.At(), ": ", slotsText(slots), ", ", twin.Len(), "; ")
	}
	return out + tokenText(twin.Token())
}

func TestNew(t *testing.T) {
	for mine := range api.MaxSites {
		for queues := 1; queues <= api.MaxQueues; queues++ {
			for _, room := range []int{1, 2, 63, 64} {
				r := made(t, mine, queues, room)
				tok := r.Token()
				if r.At() != 0 || r.Len() != 0 || tok.Own != mine || tok.Next != 0 || vec.Text(tok.Seen) != "[]" || len(tok.Late) != 0 {
					t.Errorf("P1001: New(%d, %d, %d): %s", mine, queues, room, told(r))
				}
				for q := -1; q <= api.MaxQueues; q++ {
					takes := 0
					for r.Put(q, own(1)) == api.OK {
						takes++
					}
					want := room
					if q < 0 || q >= queues {
						want = 0
					}
					if takes != want {
						t.Errorf("P1001: New(%d, %d, %d): queue %d takes %d", mine, queues, room, q, takes)
					}
				}
			}
		}
	}
}

func TestNewRefuses(t *testing.T) {
	for _, c := range [][3]int{
		{-1, 1, 1}, {8, 1, 1}, {math.MaxInt, 1, 1}, {math.MinInt, 1, 1},
		{0, 0, 1}, {0, 9, 1}, {0, -1, 1}, {0, math.MaxInt, 1}, {0, math.MinInt, 1},
		{0, 1, 0}, {0, 1, 65}, {0, 1, -1}, {0, 1, math.MaxInt}, {0, 1, math.MinInt},
		{7, 8, 65}, {7, 9, 64}, {8, 8, 64}, {-1, 0, 0},
	} {
		if r, e := ring.New(c[0], c[1], c[2]); r != nil || e != api.ErrArg {
			t.Errorf("P1001, P4: New(%v) = %v, %v", c, r, e)
		}
	}
}

// TestPut fills queues one behind the other: each has its own room.
func TestPut(t *testing.T) {
	for _, room := range []int{1, 2, 5, 63, 64} {
		r := made(t, 0, 3, room)
		for i, q := range []int{1, 0, 2} {
			for n := range room {
				fill(t, r, q, own(n+1))
				if r.Len() != i*room+n+1 {
					t.Fatalf("P1001: room %d: Len %d behind %d of queue %d", room, r.Len(), n+1, q)
				}
			}
			before := told(r)
			for _, d := range []token.Draft{own(9), far(1, 1), far(1, 5), numbered(1, 1), {}} {
				if e := r.Put(q, d); e != api.ErrFull {
					t.Errorf("P1001: room %d: Put(%d, %s) = %v", room, q, draftText(d), e)
				}
			}
			if got := told(r); got != before {
				t.Errorf("P5: a Put that is refused: %s, was %s", got, before)
			}
		}
	}
}

func TestPutOfNoQueue(t *testing.T) {
	r := made(t, 0, 3, 1)
	for range 2 { // with room, and full
		for _, q := range []int{-1, 3, 4, 7, 8, 9, math.MaxInt, math.MinInt} {
			before := told(r)
			if e := r.Put(q, own(1)); e != api.ErrArg {
				t.Errorf("P1001, P6, P9: Put(%d) = %v", q, e)
			}
			if got := told(r); got != before {
				t.Errorf("P5: a Put that is refused: %s, was %s", got, before)
			}
		}
		r = began(t, 3, 1, token.Token{Late: lates(64)})
		fill(t, r, 0, own(1))
		fill(t, r, 1, own(1))
		fill(t, r, 2, own(1))
	}
}

// TestPutOfAnything: a queue takes what may never be given a position, too; the token lets go of it, or holds it as late.
func TestPutOfAnything(t *testing.T) {
	r := made(t, 0, 1, 9)
	fill(t, r, 0, numbered(1, 1), numbered(2, -1), far(1, 0), far(1, -3), far(2, 7), far(2, 7), own(4, 9), token.Draft{})
	if r.Len() != 8 {
		t.Errorf("P1001: Len %d", r.Len())
	}
	if got := slotsText(r.Turn()); got != "0=0/0:1 [] =" || r.Len() != 2 || draftsText(r.Token().Late) != "0/2:7 [] far=; 4/0:0 [9] own=t4" {
		t.Errorf("P1001: %s; %s", got, told(r))
	}
}

// TestPutWhileManyAreLate: what may not be now is let in while less than MaxRoom are late, and no more from then on.
func TestPutWhileManyAreLate(t *testing.T) {
	for _, c := range []struct {
		late int
		want api.Errno
	}{{0, api.OK}, {1, api.OK}, {62, api.OK}, {63, api.OK}, {64, api.ErrFull}, {65, api.ErrFull}, {300, api.ErrFull}} {
		for _, d := range []token.Draft{
			own(1, 4), own(1, 0, 6), own(1, 0, 0, 1), own(1, 0, 0, 0, 0, 0, 0, 0, 1), numbered(1, 4), numbered(1, 1), numbered(1, -1),
			far(1, 5), far(1, 1), far(1, 0), far(1, 7), far(1, 6, 4), far(1, 6, 0, 6), far(2, 0), far(2, 2), far(2, 1, 0, 6), far(7, 1, 0, 0, 1),
		} {
			r := began(t, 2, 2, token.Token{Next: 8, Seen: vec.Vec{3, 5}, Late: lates(c.late)})
			before := told(r)
			if e := r.Put(1, d); e != c.want {
				t.Errorf("P1001: %d are late: Put(%s) = %v, want %v", c.late, draftText(d), e, c.want)
			}
			if got := told(r); (got == before) != (c.want != api.OK) {
				t.Errorf("P1001, P5: %d are late: Put(%s): %s, was %s", c.late, draftText(d), got, before)
			}
		}
		for _, d := range []token.Draft{own(1), own(1, 3), own(1, 3, 5), far(1, 6), far(1, 6, 3, 5), far(2, 1, 3), far(7, 1)} {
			r := began(t, 2, 2, token.Token{Next: 8, Seen: vec.Vec{3, 5}, Late: lates(c.late)})
			for _, want := range []api.Errno{api.OK, api.OK, api.ErrFull} {
				if e := r.Put(1, d); e != want {
					t.Errorf("P1001: %d are late: Put(%s) = %v, want %v", c.late, draftText(d), e, want)
				}
			}
		}
	}
}

// TestPutAsksTheTokenOfNow: what waits in a queue has no position yet, and what was given one is seen.
func TestPutAsksTheTokenOfNow(t *testing.T) {
	r := began(t, 2, 9, token.Token{Late: lates(64)})
	fill(t, r, 1, far(1, 1), own(1))
	for _, d := range []token.Draft{far(1, 2), own(2, 1), far(2, 1, 0, 1)} {
		if e := r.Put(1, d); e != api.ErrFull {
			t.Errorf("P1001: Put(%s) ahead of the turns = %v", draftText(d), e)
		}
	}
	r.Turn()
	if e := r.Put(1, far(1, 2)); e != api.ErrFull {
		t.Errorf("P1001: Put ahead of the turn of its queue = %v", e)
	}
	r.Turn()
	fill(t, r, 1, far(1, 2), own(2, 1), far(2, 1, 0, 1))
	if e := r.Put(1, far(1, 1)); e != api.ErrFull {
		t.Errorf("P1001: Put of one that was given a position = %v", e)
	}
}

// TestPutAsksForTheLastOne: an own draft that waits behind the last of all is not let in while many are late.
func TestPutAsksForTheLastOne(t *testing.T) {
	for _, c := range []struct {
		seen, late int
		want       api.Errno
	}{{api.MaxSeq - 1, 64, api.OK}, {api.MaxSeq, 64, api.ErrFull}, {api.MaxSeq, 63, api.OK}} {
		r := began(t, 1, 2, token.Token{Seen: vec.Vec{c.seen}, Late: lates(c.late)})
		if e := r.Put(0, own(1)); e != c.want {
			t.Errorf("P1001: %d seen, %d late: Put = %v, want %v", c.seen, c.late, e, c.want)
		}
	}
	r := began(t, 1, 9, token.Token{Seen: vec.Vec{api.MaxSeq - 1}, Late: lates(64)})
	fill(t, r, 0, own(1), own(2))
	if got := tickets(r.Turn()); !slices.Equal(got, []int{1}) || r.Len() != 65 {
		t.Errorf("P1001: %v; %d", got, r.Len())
	}
}

// TestLateGoesPastItsMeasure by one turn, for what is in the queues is late then; and it falls again.
func TestLateGoesPastItsMeasure(t *testing.T) {
	r := made(t, 0, 2, 64)
	all := lates(64 + 63)
	fill(t, r, 1, all[63:]...)
	fill(t, r, 0, all[:63]...)
	r.Turn()
	if e := r.Put(0, all[0]); len(r.Token().Late) != 63 || e != api.OK {
		t.Errorf("P1001: %d are late: Put = %v", len(r.Token().Late), e)
	}
	r.Turn()
	if e := r.Put(1, all[0]); len(r.Token().Late) != 127 || e != api.ErrFull || r.Len() != 128 || r.At() != 0 {
		t.Errorf("P1001: %d are late: Put = %v; Len %d", len(r.Token().Late), e, r.Len())
	}
	fill(t, r, 0, far(7, 1))
	slots := r.Turn()
	if len(slots) != 129 || r.Len() != 0 {
		t.Errorf("P1001: %d were given a position; Len %d", len(slots), r.Len())
	}
	fill(t, r, 1, own(5, 0, 9))
	for i, s := range slots {
		if want := 1000 + i - 1; s.Pos != i || i > 0 && i < 128 && s.D.Ticket != want {
			t.Fatalf("P1001: slot %d is %d=%s", i, s.Pos, draftText(s.D))
		}
	}
}

// TestTurnGoesRound: a turn has what the queue has at which the token is, in order, and nothing of the others.
func TestTurnGoesRound(t *testing.T) {
	for queues := 1; queues <= api.MaxQueues; queues++ {
		r := made(t, 0, queues, 3)
		for q := range queues {
			fill(t, r, q, own(10*q+1), own(10*q+2), own(10*q+3))
		}
		for turn := range 3 * queues {
			q := turn % queues
			if r.At() != q {
				t.Fatalf("P1001: %d queues: At %d, want %d", queues, r.At(), q)
			}
			want := []int{10*q + 1, 10*q + 2, 10*q + 3}
			if turn >= queues {
				want = nil
			}
			slots := r.Turn()
			if left := max(queues-turn-1, 0); !slices.Equal(tickets(slots), want) || r.Len() != 3*left {
				t.Fatalf("P1001: %d queues: turn %d: %s; Len %d", queues, turn, slotsText(slots), r.Len())
			}
			for i, s := range slots {
				if s.Pos != 3*turn+i || s.D.Rec.Seq != 3*turn+i+1 {
					t.Fatalf("P1001: %d queues: turn %d: %s", queues, turn, slotsText(slots))
				}
			}
		}
		if got := tokenText(r.Token()); got != fmt.Sprint("own 0 next ", 3*queues, " seen [", 3*queues, "] late ") {
			t.Errorf("P1001: %d queues: %s", queues, got)
		}
	}
}

// TestTurnEmptiesItsQueue: there is room again, and what comes behind the turn waits for the next round.
func TestTurnEmptiesItsQueue(t *testing.T) {
	r := made(t, 0, 2, 1)
	fill(t, r, 0, own(1))
	if got := tickets(r.Turn()); !slices.Equal(got, []int{1}) {
		t.Fatalf("P1001: %v", got)
	}
	fill(t, r, 0, own(2))
	if got := tickets(r.Turn()); len(got) != 0 || r.Put(0, own(3)) != api.ErrFull {
		t.Errorf("P1001: the turn of another queue tells %v", got)
	}
	if got := tickets(r.Turn()); !slices.Equal(got, []int{2}) || r.Len() != 0 || r.At() != 1 {
		t.Errorf("P1001: %v; Len %d, At %d", got, r.Len(), r.At())
	}
}

// TestTurnOfLates: what is late goes with the token from queue to queue, ahead of what they have.
func TestTurnOfLates(t *testing.T) {
	r := made(t, 0, 3, 5)
	fill(t, r, 0, own(1, 0, 1), far(2, 1, 0, 2))
	fill(t, r, 1, own(2), far(1, 1))
	fill(t, r, 2, own(3, 0, 2), far(1, 2))
	for i, want := range []string{
		" | 1 6 own 0 next 0 seen [] late 1/0:0 [0 1] own=t1; 0/2:1 [0 2] far=",
		"0=2/0:1 [] own=t2; 1=0/1:1 [] far=; 2=1/0:2 [0 1] own=t1 | 2 3 own 0 next 3 seen [2 1] late 0/2:1 [0 2] far=",
		"3=0/1:2 [] far=; 4=0/2:1 [0 2] far=; 5=3/0:3 [0 2] own=t3 | 0 0 own 0 next 6 seen [3 2 1] late ",
		" | 1 0 own 0 next 6 seen [3 2 1] late ",
	} {
		if got := fmt.Sprint(slotsText(r.Turn()), " | ", r.At(), " ", r.Len(), " ", tokenText(r.Token())); got != want {
			t.Fatalf("P1001: turn %d:\n%s; want\n%s", i, got, want)
		}
	}
}

// TestTurnTakesEachOnce: what comes twice, by two queues too, is given one position.
func TestTurnTakesEachOnce(t *testing.T) {
	r := made(t, 0, 2, 5)
	fill(t, r, 0, named(far(1, 1), "a"), named(far(1, 1), "b"), far(1, 3))
	fill(t, r, 1, named(far(1, 1), "c"), far(1, 3), far(1, 2))
	if got := slotsText(r.Turn()); got != "0=0/1:1 [] far=a" || r.Len() != 4 {
		t.Errorf("W3, P1001: %s; Len %d", got, r.Len())
	}
	if got := slotsText(r.Turn()); got != "1=0/1:2 [] far=; 2=0/1:3 [] far=" || r.Len() != 0 {
		t.Errorf("W3, P1001: %s; Len %d", got, r.Len())
	}
}

func TestLen(t *testing.T) {
	r := began(t, 8, 2, token.Token{Late: lates(3)})
	n := 3
	for q := 7; q >= 0; q-- {
		for range 2 {
			if n++; r.Put(q, own(1, 9)) != api.OK || r.Len() != n {
				t.Errorf("P1001: Len %d, want %d", r.Len(), n)
			}
		}
	}
	for range 16 {
		if r.Turn(); r.Len() != n {
			t.Errorf("P1001: Len %d of what is late, want %d", r.Len(), n)
		}
	}
}

func TestBegin(t *testing.T) {
	late := []token.Draft{far(1, 6), own(4, 0, 6), far(1, 6), numbered(2, 3)}
	for _, c := range []struct {
		tok       token.Token
		wait, got string
	}{
		{token.Token{}, "0 own 0 next 0 seen [] late ", "0=9/0:1 [] own=t9"},
		{token.Token{Next: 7}, "0 own 0 next 7 seen [] late ", "7=9/0:1 [] own=t9"},
		{token.Token{Next: 7, Seen: vec.Vec{3, 4}}, "0 own 0 next 7 seen [3 4] late ", "7=9/0:4 [] own=t9"},
		{token.Token{Next: 7, Seen: vec.Vec{3, 4, 0, 0, 0, 0, 0, 9}, Late: late},
			"4 own 0 next 7 seen [3 4 0 0 0 0 0 9] late 0/1:6 [] far=; 4/0:0 [0 6] own=t4; 0/1:6 [] far=; 2/0:3 [] own=t2", "7=9/0:4 [] own=t9"},
		{token.Token{Next: 7, Seen: vec.Vec{3, 5}, Late: late},
			"4 own 0 next 7 seen [3 5] late 0/1:6 [] far=; 4/0:0 [0 6] own=t4; 0/1:6 [] far=; 2/0:3 [] own=t2",
			"7=0/1:6 [] far=; 8=4/0:4 [0 6] own=t4; 9=9/0:5 [] own=t9"},
		{token.Token{Seen: vec.Vec{api.MaxSeq}}, "0 own 0 next 0 seen [1048576] late ", ""},
	} {
		r := made(t, 0, 3, 2)
		fill(t, r, 0, own(1), far(1, 2))
		fill(t, r, 1, own(2, 0, 0, 9), far(1, 1))
		fill(t, r, 2, own(3), own(4))
		r.Turn()
		r.Turn()
		fill(t, r, 1, own(5))
		e := r.Begin(c.tok)
		if got := fmt.Sprint(r.Len(), " ", tokenText(r.Token())); e != api.OK || r.At() != 0 || got != c.wait {
			t.Errorf("P1001: Begin(%s) = %v, At %d: %s, want %s", tokenText(c.tok), e, r.At(), got, c.wait)
		}
		if got, want := told(r), told(began(t, 3, 2, c.tok)); got != want {
			t.Errorf("P1001: Begin(%s):\n%s; want\n%s", tokenText(c.tok), got, want)
		}
		fill(t, r, 0, own(9))
		if got := slotsText(r.Turn()); got != c.got {
			t.Errorf("P1001: Begin(%s): %s, want %s", tokenText(c.tok), got, c.got)
		}
	}
}

// TestBeginWithManyLates: any number may be late then.
func TestBeginWithManyLates(t *testing.T) {
	r := began(t, 2, 2, token.Token{Late: lates(500)})
	if r.Len() != 500 || r.Put(0, own(1, 9)) != api.ErrFull {
		t.Errorf("P1001: Len %d", r.Len())
	}
	fill(t, r, 0, far(7, 1))
	if got := len(r.Turn()); got != 501 || r.Len() != 0 {
		t.Errorf("P1001: %d were given a position; Len %d", got, r.Len())
	}
}

func TestBeginRefuses(t *testing.T) {
	r := made(t, 1, 3, 2)
	fill(t, r, 0, far(0, 1), far(0, 3))
	fill(t, r, 1, far(0, 5))
	r.Turn()
	before := told(r)
	nine := make(vec.Vec, 9)
	for _, c := range []struct {
		tok  token.Token
		want api.Errno
	}{
		{token.Token{Own: 0}, api.ErrArg},
		{token.Token{Own: 2}, api.ErrArg},
		{token.Token{Own: -1}, api.ErrArg},
		{token.Token{Own: 8}, api.ErrArg},
		{token.Token{Own: math.MinInt}, api.ErrArg},
		{token.Token{Own: 1, Next: -1}, api.ErrArg},
		{token.Token{Own: 1, Seen: vec.Vec{-1}}, api.ErrArg},
		{token.Token{Own: 1, Seen: nine}, api.ErrLong},
		{token.Token{Own: 1, Seen: vec.Vec{0, api.MaxSeq + 1}}, api.ErrLong},
		// Several at once: the token's own come first, and another Own last.
		{token.Token{Own: 1, Next: -1, Seen: nine}, api.ErrArg},
		{token.Token{Own: 0, Seen: nine}, api.ErrLong},
		{token.Token{Own: 7, Seen: vec.Vec{api.MaxSeq + 1}}, api.ErrLong},
		{token.Token{Own: 8, Seen: nine}, api.ErrArg},
		{token.Token{Own: 0, Seen: vec.Vec{api.MaxSeq}, Late: lates(2)}, api.ErrArg},
	} {
		if e := r.Begin(c.tok); e != c.want {
			t.Errorf("P1001, P6: Begin(%s) = %v, want %v", tokenText(c.tok), e, c.want)
		}
		if got := told(r); got != before {
			t.Errorf("P5: Begin(%s), which is refused: %s, was %s", tokenText(c.tok), got, before)
		}
	}
}

// TestResize resizes from each number of queues to each, with the token at each.
func TestResize(t *testing.T) {
	for from := 1; from <= api.MaxQueues; from++ {
		for to := 1; to <= api.MaxQueues; to++ {
			for at := range from {
				r := made(t, 0, from, 2)
				for range at {
					r.Turn()
				}
				want := make([][]int, max(from, to))
				for q := range from {
					fill(t, r, q, own(10*q+1), own(10*q+2))
					want[q] = []int{10*q + 1, 10*q + 2}
				}
				for q := to; q < from; q++ {
					want[0] = append(want[0], want[q]...)
				}
				e := r.Resize(to)
				place := at
				if at >= to {
					place = 0
				}
				if e != api.OK || r.At() != place || r.Len() != 2*from || r.Put(to, own(1)) != api.ErrArg {
					t.Fatalf("P1001: Resize(%d) of %d, at %d: %v; %s", to, from, at, e, told(r))
				}
				for range to {
					if got := tickets(r.Turn()); !slices.Equal(got, want[place]) {
						t.Fatalf("P1001: Resize(%d) of %d, at %d: queue %d has %v, want %v", to, from, at, place, got, want[place])
					}
					place = (place + 1) % to
				}
				if r.Len() != 0 || r.At() != place {
					t.Fatalf("P1001: Resize(%d) of %d, at %d: %s", to, from, at, told(r))
				}
			}
		}
	}
}

func TestResizeRefuses(t *testing.T) {
	r := made(t, 0, 3, 2)
	r.Turn()
	r.Turn()
	fill(t, r, 0, own(1))
	fill(t, r, 2, own(2))
	before := told(r)
	for _, n := range []int{0, 9, -1, math.MaxInt, math.MinInt} {
		if e := r.Resize(n); e != api.ErrArg {
			t.Errorf("P1001, P9: Resize(%d) = %v", n, e)
		}
		if got := told(r); got != before {
			t.Errorf("P5: Resize(%d), which is refused: %s, was %s", n, got, before)
		}
	}
}

// TestResizePastTheRoom: queue 0 takes over all, and has no room till its turn.
func TestResizePastTheRoom(t *testing.T) {
	r := made(t, 0, 8, 64)
	var want []int
	for q := range 8 {
		for i := range 64 {
			fill(t, r, q, own(64*q+i+1))
			want = append(want, 64*q+i+1)
		}
	}
	if e := r.Resize(1); e != api.OK || r.Len() != 512 || r.Put(0, own(9)) != api.ErrFull {
		t.Errorf("P1001: %v; Len %d", e, r.Len())
	}
	if e := r.Resize(2); e != api.OK || r.Len() != 512 || r.Put(0, own(9)) != api.ErrFull {
		t.Errorf("P1001: %v; Len %d", e, r.Len())
	}
	fill(t, r, 1, own(600))
	if got := tickets(r.Turn()); !slices.Equal(got, want) || r.Len() != 1 || r.At() != 1 {
		t.Errorf("P1001: %v; Len %d, At %d", got, r.Len(), r.At())
	}
	fill(t, r, 0, own(601))
}

// TestResizeKeepsTheRest: room, token and lates are as they were, whatever many queues there are.
func TestResizeKeepsTheRest(t *testing.T) {
	tok := token.Token{Own: 2, Next: 5, Seen: vec.Vec{1, 0, 2}, Late: []token.Draft{far(1, 4), far(0, 2, 0, 1)}}
	r := began(t, 4, 3, tok)
	for _, n := range []int{1, 8, 4, 3, 3, 2, 8, 1} {
		e := r.Resize(n)
		if got, want := told(r), told(began(t, n, 3, tok)); e != api.OK || got != want {
			t.Errorf("P1001: Resize(%d) = %v: %s, want %s", n, e, got, want)
		}
	}
}

// TestResizeOfQueuesThatWereGone: what was taken over does not come back with them.
func TestResizeOfQueuesThatWereGone(t *testing.T) {
	r := made(t, 0, 3, 2)
	fill(t, r, 1, own(1), own(2))
	fill(t, r, 2, own(3))
	r.Resize(1)
	r.Resize(3)
	if got := fmt.Sprint(tickets(r.Turn()), tickets(r.Turn()), tickets(r.Turn())); got != "[1 2 3] [] []" {
		t.Errorf("P1001: %s", got)
	}
}

// TestTwin lets a ring and its twin go their own ways.
func TestTwin(t *testing.T) {
	ways := []func(r *ring.Ring){
		func(r *ring.Ring) { r.Turn() },
		func(r *ring.Ring) { r.Turn(); r.Turn() },
		func(r *ring.Ring) { r.Put(0, own(50)) },
		func(r *ring.Ring) { r.Put(1, far(3, 1)); r.Put(1, own(51)) },
		func(r *ring.Ring) { r.Resize(1); r.Put(0, own(52)) },
		func(r *ring.Ring) { r.Resize(8); r.Put(7, own(53)) },
		func(r *ring.Ring) { r.Begin(token.Token{Next: 9, Seen: vec.Vec{8}, Late: lates(2)}); r.Put(1, own(54)) },
		func(r *ring.Ring) { r.Resize(2); r.Turn(); r.Turn(); r.Resize(3); r.Turn() },
	}
	for i, way := range ways {
		r := made(t, 0, 3, 5)
		fill(t, r, 0, own(1), own(2, 0, 3), far(1, 2))
		fill(t, r, 1, own(3, 0, 2), far(1, 4), far(2, 1))
		fill(t, r, 2, far(1, 1), own(4))
		r.Turn()
		fill(t, r, 0, far(1, 3))
		before := told(r)
		twin := r.Twin()
		way(r)
		if got := told(twin); got != before {
			t.Errorf("P7: a twin behind way %d: %s, was %s", i, got, before)
		}
		other := twin.Twin()
		way(other)
		if got := told(twin); got != before {
			t.Errorf("P7: what has a twin behind way %d of it: %s, was %s", i, got, before)
		}
		if got, want := told(other), told(r); got != want {
			t.Errorf("P3: way %d: %s, want %s", i, got, want)
		}
	}
}

// TestTwinsFillAlone: drafts that come behind the making of a twin come into one of them, whatever spare room lists have.
func TestTwinsFillAlone(t *testing.T) {
	for size := range 10 {
		r := made(t, 0, 2, 64)
		for i := range size {
			fill(t, r, 0, own(i+1))
			fill(t, r, 1, own(i+21))
		}
		twin := r.Twin()
		fill(t, r, 0, own(50))
		fill(t, twin, 0, own(60))
		twin.Resize(1)
		r.Resize(1)
		fill(t, r, 0, own(51))
		fill(t, twin, 0, own(61))
		a, b := tickets(r.Turn()), tickets(twin.Turn())
		if len(a) != 2*size+2 || a[size] != 50 || a[2*size+1] != 51 || len(b) != 2*size+2 || b[size] != 60 || b[2*size+1] != 61 {
			t.Errorf("P7: %d in each: %v, %v", size, a, b)
		}
	}
}

// TestNothingIsKept: what is handed in is neither changed nor kept.
func TestNothingIsKept(t *testing.T) {
	for _, begin := range []bool{false, true} {
		r := made(t, 0, 1, 5)
		dep := vec.Vec{0, 1, 66, 66}
		seen := vec.Vec{4, 0, 77, 77}
		memory := []byte("keyvalue")
		text := unsafe.String(&memory[0], len(memory))
		late := []token.Draft{{Ticket: 6, Rec: rec.Record{Dep: dep[:2], Key: text[:3], Val: text[3:]}}, own(99)}
		if begin {
			r.Begin(token.Token{Next: 4, Seen: seen[:2], Late: late[:1]})
		} else {
			r.Begin(token.Token{Next: 4, Seen: seen[:2]})
			fill(t, r, 0, late[0])
		}
		fill(t, r, 0, own(7, 0, 9))
		r.Token()
		r.Twin().Turn()
		r.Twin().Resize(8)
		if !slices.Equal(dep, vec.Vec{0, 1, 66, 66}) || !slices.Equal(seen, vec.Vec{4, 0, 77, 77}) || draftsText(late) != "6/0:0 [0 1] key=value; 99/0:0 [] own=t99" {
			t.Errorf("P2: what was handed in is %v, %v, %s", dep, seen, draftsText(late))
		}
		before := told(r)
		late[0].Ticket = 9
		for i := range dep {
			dep[i], seen[i] = 5, 5
		}
		for i := range memory {
			memory[i] = '?'
		}
		if got := told(r); got != before {
			t.Errorf("P2: Begin %v: what was handed in is kept: %s, was %s", begin, got, before)
		}
	}
}

// scribbled writes over all memory that lists of drafts and numbers have, and tells whether two of them share some.
func scribbled(seen vec.Vec, drafts []token.Draft) bool {
	all := []vec.Vec{seen[:cap(seen)]}
	for i, d := range drafts[:cap(drafts)] {
		all = append(all, d.Rec.Dep[:cap(d.Rec.Dep)])
		drafts[:cap(drafts)][i] = far(6, 6)
	}
	for i, v := range all {
		for k := range v {
			v[k] = 100 + i
		}
	}
	for i, v := range all {
		if slices.ContainsFunc(v, func(n int) bool { return n != 100+i }) {
			return true
		}
	}
	return false
}

func TestAnswersAreNewMemory(t *testing.T) {
	dep := []int{0, 1}
	r := began(t, 2, 5, token.Token{Next: 3, Seen: vec.Vec{2, 0, 5}, Late: []token.Draft{own(1, dep...), own(2, dep...), far(3, 9, dep...)}})
	fill(t, r, 0, own(3, dep...), own(4, dep...), own(5, 9), far(1, 1, 2))
	for range 3 {
		twin := r.Twin()
		before := told(r)
		tok := r.Token()
		if scribbled(tok.Seen, tok.Late) {
			t.Errorf("P2: two lists of Token have one memory: %v", tok)
		}
		if got := told(r); got != before {
			t.Errorf("P2: Token hands out what is kept: %s, was %s", got, before)
		}
		slots := r.Turn()
		after := told(r)
		drafts := make([]token.Draft, len(slots))
		for i, s := range slots {
			drafts[i] = s.D
		}
		if scribbled(nil, drafts) {
			t.Errorf("P2: two lists of Turn have one memory: %v", slots)
		}
		slots = slots[:cap(slots)]
		for i := range slots {
			slots[i] = token.Slot{Pos: 77}
		}
		if told(r) != after || told(twin) != before {
			t.Errorf("P2: Turn hands out what is kept: %s, was %s; a twin: %s, was %s", told(r), after, told(twin), before)
		}
	}
}

// TestNoListAndAnEmptyOne are the same.
func TestNoListAndAnEmptyOne(t *testing.T) {
	none := began(t, 2, 2, token.Token{})
	empty := began(t, 2, 2, token.Token{Seen: vec.Vec{}, Late: []token.Draft{}})
	fill(t, none, 0, token.Draft{Rec: rec.Record{Key: "k"}})
	fill(t, empty, 0, token.Draft{Rec: rec.Record{Key: "k", Dep: vec.Vec{}}})
	if a, b := told(none), told(empty); a != b {
		t.Errorf("P2: of none %s, of an empty one %s", a, b)
	}
}

// TestWildOnesEnd hands in numbers that may not be: calls end, and change nothing of what they are given.
func TestWildOnesEnd(t *testing.T) {
	wild := []int{0, 1, -1, 7, 8, 63, 64, api.MaxSeq, api.MaxSeq + 1, math.MaxInt, math.MinInt}
	for _, mine := range []int{0, 7} {
		r, like := made(t, mine, 3, 64), made(t, mine, 3, 64)
		for _, n := range wild {
			for _, seq := range wild {
				d := token.Draft{Ticket: seq, Rec: rec.Record{Site: n, Seq: seq, Dep: vec.Vec{0, n, -seq}}}
				before := fmt.Sprint(d)
				for _, q := range []int{n, seq, 0, 1, 2} {
					if a, b := r.Put(q, d), like.Put(q, d); a != b {
						t.Errorf("P3: Put(%d, %s) = %v, %v", q, before, a, b)
					}
				}
				tok := token.Token{Own: n, Next: seq, Seen: vec.Vec{n, seq}, Late: []token.Draft{d}}
				r.Twin().Begin(tok)
				if a, b := fmt.Sprint(r.Turn(), r.Resize(n), r.Len()), fmt.Sprint(like.Turn(), like.Resize(n), like.Len()); a != b {
					t.Errorf("P3: %s, %s", a, b)
				}
				if got := fmt.Sprint(d); got != before {
					t.Errorf("P2: %s, was %s", got, before)
				}
			}
			r.Resize(3)
			like.Resize(3)
		}
	}
}

// TestRingThatNoNewMade: one that was only declared has no queues.
func TestRingThatNoNewMade(t *testing.T) {
	var r ring.Ring
	for q := range 2 {
		if e := r.Put(q, own(1)); e != api.ErrArg || r.Len() != 0 || r.At() != 0 {
			t.Errorf("P1: Put = %v, Len %d, At %d", e, r.Len(), r.At())
		}
		if slots := r.Turn(); len(slots) != 0 {
			t.Errorf("P1: %s", slotsText(slots))
		}
		r.Twin().Turn()
		r.Begin(token.Token{Next: 3})
		r.Token()
	}
	r.Resize(2)
	r.Put(1, own(1))
	r.Turn()
	r.Turn()
}

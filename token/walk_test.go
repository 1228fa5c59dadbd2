package token_test

import (
	"fmt"
	"math/rand"
	"slices"
	"testing"

	"landau/api"
	"landau/rec"
	"landau/token"
	"landau/vec"
)

// plain is a token as the document tells it, by numbers of eight sites.
type plain struct {
	own, next int
	seen      [8]int
	slots     []token.Slot
}

// may tells whether d may be given the next position.
func (p *plain) may(d token.Draft) bool {
	r := d.Rec
	for site, n := range r.Dep {
		if n > p.seen[site] {
			return false
		}
	}
	if r.Site == p.own {
		return r.Seq == 0 && p.seen[p.own] < api.MaxSeq
	}
	return r.Seq == p.seen[r.Site]+1
}

// admit gives positions to what may be of l, from the first on again at each, and answers what is left.
func (p *plain) admit(l []token.Draft) []token.Draft {
	first := slices.IndexFunc(l, p.may)
	if first < 0 {
		return p.kept(l)
	}
	d := l[first]
	p.seen[d.Rec.Site]++
	d.Rec.Seq = p.seen[d.Rec.Site]
	p.slots = append(p.slots, token.Slot{Pos: p.next, D: d})
	p.next++
	return p.admit(slices.Concat(l[:first], l[first+1:]))
}

// kept answers what of l is Late.
func (p *plain) kept(l []token.Draft) []token.Draft {
	var out []token.Draft
	for _, d := range l {
		same := func(x token.Draft) bool { return x.Rec.Site == d.Rec.Site && x.Rec.Seq == d.Rec.Seq }
		switch {
		case d.Rec.Site == p.own && d.Rec.Seq != 0:
		case d.Rec.Site != p.own && d.Rec.Seq <= p.seen[d.Rec.Site]:
		case d.Rec.Site != p.own && slices.ContainsFunc(out, same):
		default:
			out = append(out, d)
		}
	}
	return out
}

// plainTold tells what Admit ought to answer.
func plainTold(tok token.Token, l []token.Draft) string {
	p := plain{own: tok.Own, next: tok.Next}
	copy(p.seen[:], tok.Seen)
	late := p.admit(slices.Concat(tok.Late, l))
	return told(token.Token{Own: p.own, Next: p.next, Seen: p.seen[:], Late: late}, p.slots)
}

// broken tells in which way an answer of Admit goes against the words, asked step by step; "": in none.
func broken(tok token.Token, l []token.Draft) string {
	after, slots := token.Admit(tok, l)
	now, left := tok, slices.Concat(tok.Late, l)
	for i, s := range slots {
		first := slices.IndexFunc(left, func(d token.Draft) bool { return token.May(now, d) })
		if first < 0 || s.Pos != now.Next {
			return fmt.Sprint("slot ", i, " is of none that may be, or has another position than Next")
		}
		want := left[first]
		if want.Rec.Site == tok.Own {
			want.Rec.Seq = vec.Get(now.Seen, tok.Own) + 1
		}
		if draftText(s.D) != draftText(want) || s.D.Rec.Seq != vec.Get(now.Seen, s.D.Rec.Site)+1 {
			return fmt.Sprint("slot ", i, " is not the first one that may be")
		}
		now.Seen = vec.With(now.Seen, s.D.Rec.Site, s.D.Rec.Seq)
		now.Next++
		left = slices.Delete(left, first, first+1)
	}
	if after.Own != tok.Own || after.Next != now.Next || !vec.Same(after.Seen, now.Seen) {
		return "the token is another one than its slots tell"
	}
	if slices.ContainsFunc(after.Late, func(d token.Draft) bool { return token.May(after, d) }) {
		return "one that may be is Late"
	}
	if again, more := token.Admit(after, nil); len(more) != 0 || told(again, nil) != told(after, nil) {
		return "admitted again, it is another one"
	}
	return ""
}

// hold holds Admit against the plain token and the words, of each place at which Late may end.
func hold(t *testing.T, tok token.Token, l []token.Draft) {
	t.Helper()
	want := plainTold(tok, l)
	for cut := range len(l) + 1 {
		tok.Late = l[:cut]
		if got := told(token.Admit(tok, l[cut:])); got != want {
			t.Fatalf("P901: own %d, seen %s, late %s, of %s:\n%s; want\n%s", tok.Own, vec.Text(tok.Seen), draftsText(tok.Late), draftsText(l[cut:]), got, want)
		}
	}
	if why := broken(tok, nil); why != "" {
		t.Fatalf("P901: own %d, seen %s, of %s: %s", tok.Own, vec.Text(tok.Seen), draftsText(l), why)
	}
}

// TestAllShortLists goes through all lists of a few drafts that hang on each other.
func TestAllShortLists(t *testing.T) {
	letters := []token.Draft{
		own(1), own(2, 0, 1), own(3, 1, 0, 1), own(4, 0, 9), numbered(5, 1),
		far(1, 1), named(far(1, 1, 1), "x"), far(1, 2), named(far(1, 2, 0, 0, 1), "x"), far(1, 3, 2),
		far(2, 1, 0, 2), far(2, 1), far(2, 2, 0, 1),
	}
	for _, tok := range []token.Token{{}, {Next: 9, Seen: vec.Vec{1, 1}}, {Own: 1, Next: 2, Seen: vec.Vec{0, 0, 1}}, {Own: 5}} {
		var grow func(l []token.Draft)
		grow = func(l []token.Draft) {
			hold(t, tok, l)
			if len(l) == 4 {
				return
			}
			for _, d := range letters {
				grow(append(l[:len(l):len(l)], d))
			}
		}
		grow(nil)
	}
}

// drawn answers drafts of all sites by chance, about what is seen.
func drawn(chance *rand.Rand, own int, seen [8]int, size int) []token.Draft {
	l := make([]token.Draft, size)
	for i := range l {
		site := chance.Intn(8)
		dep := make(vec.Vec, chance.Intn(9))
		for k := range dep {
			if chance.Intn(4) == 0 {
				dep[k] = max(seen[k]+chance.Intn(6)-2, 0)
			}
		}
		l[i] = token.Draft{Rec: rec.Record{Site: site, Seq: seen[site] + chance.Intn(6), Dep: dep, Key: "k", Val: fmt.Sprint("v", i)}}
		if site == own && chance.Intn(9) > 0 {
			l[i].Ticket, l[i].Rec.Seq = i+1, 0
		}
	}
	return l
}

// TestLongLists goes through long lists of all sites, by chance, at the beginning and at the end of all.
func TestLongLists(t *testing.T) {
	chance := rand.New(rand.NewSource(901))
	for range 1500 {
		var seen [8]int
		for i := range seen {
			seen[i] = chance.Intn(4)
			if chance.Intn(6) == 0 {
				seen[i] = api.MaxSeq - chance.Intn(9)
			}
		}
		tok := token.Token{Own: chance.Intn(8), Next: chance.Intn(99), Seen: seen[:]}
		hold(t, tok, drawn(chance, tok.Own, seen, chance.Intn(50)))
	}
}

// TestLongWalks hands a token over many times, as queues in a ring do: each draft is given a position once, behind what it hangs on.
func TestLongWalks(t *testing.T) {
	chance := rand.New(rand.NewSource(902))
	for range 40 {
		tok := token.Token{Own: chance.Intn(8)}
		log := map[[2]int]int{}
		for range 60 {
			var seen [8]int
			copy(seen[:], tok.Seen)
			l := drawn(chance, tok.Own, seen, chance.Intn(12))
			if want, got := plainTold(tok, l), told(token.Admit(tok, l)); got != want {
				t.Fatalf("P901: %s; want %s", got, want)
			}
			var slots []token.Slot
			tok, slots = token.Admit(tok, l)
			for _, s := range slots {
				name := [2]int{s.D.Rec.Site, s.D.Rec.Seq}
				if _, twice := log[name]; twice || s.Pos != len(log) {
					t.Fatalf("P901: %s is twice there, or at another position than %d", slotsText([]token.Slot{s}), len(log))
				}
				for site, n := range s.D.Rec.Dep {
					if _, ahead := log[[2]int{site, n}]; n > 0 && !ahead {
						t.Fatalf("P901: %s is ahead of what it hangs on", slotsText([]token.Slot{s}))
					}
				}
				log[name] = s.Pos
			}
		}
		if len(log) < 60 {
			t.Errorf("P901: only %d were given a position", len(log))
		}
	}
}

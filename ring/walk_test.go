package ring_test

import (
	"fmt"
	"math/rand"
	"slices"
	"strings"
	"testing"

	"landau/api"
	"landau/rec"
	"landau/ring"
	"landau/token"
	"landau/vec"
)

// plain is a ring as the document tells it.
type plain struct {
	room   int
	queues [][]token.Draft
	at     int
	tok    token.Token
}

func newPlain(own, queues, room int) *plain {
	return &plain{room: room, queues: make([][]token.Draft, queues), tok: token.Token{Own: own}}
}

func (p *plain) twin() *plain {
	twin := *p
	twin.queues = nil
	for _, l := range p.queues {
		twin.queues = append(twin.queues, slices.Clone(l))
	}
	return &twin
}

func (p *plain) put(q int, d token.Draft) api.Errno {
	switch {
	case q < 0 || q >= len(p.queues):
		return api.ErrArg
	case len(p.queues[q]) >= p.room:
		return api.ErrFull
	case len(p.tok.Late) >= 64 && !token.May(p.tok, d):
		return api.ErrFull
	}
	p.queues[q] = append(p.queues[q], d)
	return api.OK
}

func (p *plain) turn() []token.Slot {
	var slots []token.Slot
	p.tok, slots = token.Admit(p.tok, p.queues[p.at])
	p.queues[p.at] = nil
	p.at = (p.at + 1) % len(p.queues)
	return slots
}

func (p *plain) size() int {
	return len(slices.Concat(p.queues...)) + len(p.tok.Late)
}

func (p *plain) begin(tok token.Token) api.Errno {
	if e := token.Check(tok); e != api.OK {
		return e
	}
	if tok.Own != p.tok.Own {
		return api.ErrArg
	}
	p.queues = make([][]token.Draft, len(p.queues))
	p.tok, p.at = tok, 0
	return api.OK
}

func (p *plain) resize(n int) api.Errno {
	if n < 1 || n > 8 {
		return api.ErrArg
	}
	queues := make([][]token.Draft, n)
	copy(queues, p.queues)
	if n < len(p.queues) {
		queues[0] = slices.Concat(queues[0], slices.Concat(p.queues[n:]...))
	}
	p.queues = queues
	if p.at >= n {
		p.at = 0
	}
	return api.OK
}

// told tells what told tells of a ring that is like it.
func (p *plain) told() string {
	out := fmt.Sprint(p.size(), " at ", p.at, " ", tokenText(p.tok), " |")
	for q := range api.MaxQueues + 1 {
		twin, takes := p.twin(), 0
		e := twin.put(q, own(99))
		for ; e == api.OK; e = twin.put(q, own(99)) {
			takes++
		}
		out += fmt.Sprint(" ", takes, " ", e)
	}
	out += " | "
	twin := p.twin()
	for range 2 * api.MaxQueues {
		slots := twin.turn()
		out += fmt.Sprint(twin.at, ": ", slotsText(slots), ", ", twin.size(), "; ")
	}
	return out + tokenText(twin.tok)
}

// step does the same to both rings, and answers what they ought to tell alike.
type step struct {
	name string
	real func(r *ring.Ring) string
	want func(p *plain) string
}

func putStep(q int, d token.Draft) step {
	return step{fmt.Sprint("Put ", q, " ", draftText(d)),
		func(r *ring.Ring) string { return r.Put(q, d).Error() },
		func(p *plain) string { return p.put(q, d).Error() }}
}

func turnStep() step {
	return step{"Turn",
		func(r *ring.Ring) string { return slotsText(r.Turn()) },
		func(p *plain) string { return slotsText(p.turn()) }}
}

func beginStep(tok token.Token) step {
	return step{fmt.Sprint("Begin ", tokenText(tok)),
		func(r *ring.Ring) string { return r.Begin(tok).Error() },
		func(p *plain) string { return p.begin(tok).Error() }}
}

func resizeStep(n int) step {
	return step{fmt.Sprint("Resize ", n),
		func(r *ring.Ring) string { return r.Resize(n).Error() },
		func(p *plain) string { return p.resize(n).Error() }}
}

// TestAllShortWalks goes every way of a few steps, on a twin each, and holds each against the plain ring.
func TestAllShortWalks(t *testing.T) {
	all := []step{
		putStep(0, own(1)), putStep(1, own(2, 0, 1)), putStep(1, far(1, 1)), putStep(2, far(1, 2)), turnStep(),
		resizeStep(1), resizeStep(2), resizeStep(3),
		beginStep(token.Token{Next: 5, Seen: vec.Vec{2}, Late: []token.Draft{far(1, 2)}}), beginStep(token.Token{Own: 1}),
	}
	for _, c := range [][2]int{{1, 1}, {2, 1}, {3, 2}} {
		var walk func(r *ring.Ring, p *plain, way []string)
		walk = func(r *ring.Ring, p *plain, way []string) {
			for _, x := range all {
				if len(way) == 4 || t.Failed() {
					return
				}
				twin, like, gone := r.Twin(), p.twin(), append(slices.Clone(way), x.name)
				got, want := x.real(twin), x.want(like)
				if got != want || told(twin) != like.told() {
					t.Errorf("P1001: queues, room %v: %s: %s, %s; want %s, %s", c, strings.Join(gone, ", "), got, told(twin), want, like.told())
					return
				}
				walk(twin, like, gone)
			}
		}
		walk(made(t, 0, c[0], c[1]), newPlain(0, c[0], c[1]), nil)
	}
}

// drawn answers a draft by chance, of any site, about what is seen.
func drawn(chance *rand.Rand, tok token.Token, n int) token.Draft {
	site := chance.Intn(8)
	dep := make(vec.Vec, chance.Intn(9))
	for k := range dep {
		if chance.Intn(5) == 0 {
			dep[k] = max(vec.Get(tok.Seen, k)+chance.Intn(6)-4, 0)
		}
	}
	r := rec.Record{Site: site, Seq: vec.Get(tok.Seen, site) + chance.Intn(5), Dep: dep, Key: "k", Val: fmt.Sprint("v", n)}
	if site != tok.Own {
		return token.Draft{Rec: r}
	}
	if chance.Intn(9) > 0 {
		r.Seq = 0
	}
	return token.Draft{Ticket: n, Rec: r}
}

// anyStep answers a step by chance.
func anyStep(chance *rand.Rand, p *plain, n int) step {
	switch x := chance.Intn(200); {
	case x == 0:
		return beginStep(token.Token{Own: p.tok.Own, Next: n, Seen: vec.Vec{chance.Intn(3), 0, chance.Intn(3)}, Late: lates(chance.Intn(70))})
	case x < 4:
		return resizeStep(chance.Intn(10))
	case x < 4+3*len(p.queues):
		return turnStep()
	}
	return putStep(chance.Intn(len(p.queues)+1), drawn(chance, p.tok, n))
}

// TestLongWalks goes far, by chance, with rings of all sizes.
func TestLongWalks(t *testing.T) {
	chance := rand.New(rand.NewSource(1001))
	var full, many, turns int
	for range 60 {
		mine, queues, room := chance.Intn(8), 1+chance.Intn(8), 1+chance.Intn(64)
		r, p := made(t, mine, queues, room), newPlain(mine, queues, room)
		for i := range 300 {
			x := anyStep(chance, p, i+1)
			got, want := x.real(r), x.want(p)
			if got != want || r.Len() != p.size() || r.At() != p.at || tokenText(r.Token()) != tokenText(p.tok) {
				t.Fatalf("P1001: %s: %s; want %s", x.name, got, want)
			}
			if i%20 == 0 && told(r) != p.told() {
				t.Fatalf("P1001: behind %s: %s; want %s", x.name, told(r), p.told())
			}
			if got == api.ErrFull.Error() {
				full++
			}
			if len(p.tok.Late) >= 64 {
				many++
			}
			if x.name == "Turn" && got != "" {
				turns++
			}
		}
	}
	if full < 100 || many < 100 || turns < 100 {
		t.Errorf("P1001: the walks are too tame: %d times full, %d times many late, %d turns", full, many, turns)
	}
}

// TestEachOnceBehindWhatItHangsOn: whatever is put where, positions follow each other, each record has one, and none
// stands ahead of what it hangs on.
func TestEachOnceBehindWhatItHangsOn(t *testing.T) {
	chance := rand.New(rand.NewSource(1002))
	for range 30 {
		r := made(t, chance.Intn(8), 1+chance.Intn(8), 1+chance.Intn(64))
		log := map[[2]int]int{}
		for i := range 1500 {
			if chance.Intn(100) == 0 {
				r.Resize(1 + chance.Intn(8))
			}
			r.Put(chance.Intn(8), drawn(chance, r.Token(), i+1))
			if chance.Intn(4) > 0 {
				continue
			}
			for _, s := range r.Turn() {
				name := [2]int{s.D.Rec.Site, s.D.Rec.Seq}
				if _, twice := log[name]; twice || s.Pos != len(log) {
					t.Fatalf("W3: %s is twice there, or at another position than %d", slotsText([]token.Slot{s}), len(log))
				}
				if _, ahead := log[[2]int{s.D.Rec.Site, s.D.Rec.Seq - 1}]; s.D.Rec.Seq > 1 && !ahead {
					t.Fatalf("W3: %s is ahead of the one before it", slotsText([]token.Slot{s}))
				}
				for site, n := range s.D.Rec.Dep {
					if _, ahead := log[[2]int{site, n}]; n > 0 && !ahead {
						t.Fatalf("W3: %s is ahead of what it hangs on", slotsText([]token.Slot{s}))
					}
				}
				log[name] = s.Pos
			}
		}
		if len(log) < 60 {
			t.Errorf("W3: only %d were given a position", len(log))
		}
	}
}

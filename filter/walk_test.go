package filter_test

import (
	"fmt"
	"math/rand"
	"slices"
	"strings"
	"testing"

	"landau/api"
	"landau/filter"
	"landau/rec"
)

// plain is a filter as the document tells it: a list of the records that are held, as they came.
type plain struct {
	site, room, next int
	held             []rec.Record
}

func (p *plain) twin() *plain {
	twin := *p
	twin.held = slices.Clone(p.held)
	return &twin
}

// at tells where the record of a Seq is held; -1: nowhere.
func (p *plain) at(seq int) int {
	return slices.IndexFunc(p.held, func(r rec.Record) bool { return r.Seq == seq })
}

func (p *plain) put(r rec.Record) api.Errno {
	switch e := rec.Check(r, 8); {
	case e != api.OK:
		return e
	case r.Site != p.site:
		return api.ErrArg
	case r.Seq < p.next || p.at(r.Seq) >= 0:
		return api.ErrTwice
	case r.Seq-p.next >= p.room:
		return api.ErrFull
	}
	p.held = append(p.held, r)
	return api.OK
}

// ready takes away at most most.
func (p *plain) ready(most int) string {
	var out []string
	for place := p.at(p.next); place >= 0 && len(out) < most; place = p.at(p.next) {
		out = append(out, rec.Text(p.held[place]))
		p.held = slices.Delete(p.held, place, place+1)
		p.next++
	}
	return strings.Join(out, "; ")
}

func (p *plain) reset(next int) api.Errno {
	if next < 1 || next > 1<<20+1 {
		return api.ErrArg
	}
	p.held, p.next = nil, next
	return api.OK
}

// told tells what told tells of a filter that is like it.
func (p *plain) told() string {
	first, there := rec.Record{}, p.at(p.next) >= 0
	if there {
		first = p.held[p.at(p.next)]
	}
	out := fmt.Sprint(p.next, " ", len(p.held), " first ", there, " ", rec.Text(first), " |")
	twin := p.twin()
	for seq := p.next - 2; seq <= p.next+api.MaxRoom+1; seq++ {
		out += " " + twin.put(rec.Record{Site: p.site, Seq: seq, Key: "k"}).Error()
	}
	twin = p.twin()
	return out + " | " + twin.ready(99) + " | " + fmt.Sprint(len(twin.held), twin.next)
}

// step does the same to both filters, and answers what they ought to tell alike.
type step struct {
	name string
	real func(f *filter.Filter) string
	want func(p *plain) string
}

func putStep(r rec.Record) step {
	return step{"Put " + rec.Text(r),
		func(f *filter.Filter) string { return f.Put(r).Error() },
		func(p *plain) string { return p.put(r).Error() }}
}

func readyStep(most int) step {
	return step{fmt.Sprint("Ready, ", most, " of it"),
		func(f *filter.Filter) string { return taken(f.Ready(), most) },
		func(p *plain) string { return p.ready(most) }}
}

func resetStep(next int) step {
	return step{fmt.Sprint("Reset ", next),
		func(f *filter.Filter) string { return f.Reset(next).Error() },
		func(p *plain) string { return p.reset(next).Error() }}
}

// shortSteps are all that a short walk may do about next.
func shortSteps(site, next int) []step {
	out := []step{readyStep(1), readyStep(2), readyStep(99), resetStep(next + 1), resetStep(next - 1)}
	for seq := next; seq < next+5; seq++ {
		out = append(out, putStep(record(site, seq)))
	}
	return append(out, putStep(rec.Record{Site: site, Seq: next + 1, Key: "other"}))
}

// TestAllShortWalks goes every way of a few steps, on a twin each, and holds each against the plain filter.
func TestAllShortWalks(t *testing.T) {
	for next, steps := range map[int]int{1: 4, 63: 3, api.MaxSeq - 1: 3} {
		for room := 1; room <= 3; room++ {
			all := shortSteps(4, next)
			var walk func(f *filter.Filter, p *plain, way []string)
			walk = func(f *filter.Filter, p *plain, way []string) {
				for _, x := range all {
					if len(way) == steps || t.Failed() {
						return
					}
					twin, like, gone := f.Twin(), p.twin(), append(slices.Clone(way), x.name)
					got, want := x.real(twin), x.want(like)
					if got != want || told(twin, 4) != like.told() {
						t.Errorf("P701: room %d, Next %d: %s: %s, %s; want %s, %s", room, next, strings.Join(gone, ", "), got, told(twin, 4), want, like.told())
						return
					}
					walk(twin, like, gone)
				}
			}
			walk(from(t, 4, room, next), &plain{site: 4, room: room, next: next}, nil)
		}
	}
}

// TestLongWalks goes far, by chance, with records as a way with many turns may bring them.
func TestLongWalks(t *testing.T) {
	chance := rand.New(rand.NewSource(701))
	for range 60 {
		site, room, next := chance.Intn(8), 1+chance.Intn(64), 1+chance.Intn(200)
		if chance.Intn(3) == 0 {
			next = api.MaxSeq - chance.Intn(100)
		}
		f, p := from(t, site, room, next), &plain{site: site, room: room, next: next}
		for range 400 {
			x := putStep(record(site, max(p.next-3+chance.Intn(room+6), 1)))
			switch chance.Intn(40) {
			case 0:
				x = resetStep(p.next + chance.Intn(9) - 4)
			case 1:
				x = putStep(record((site+1)%8, p.next))
			case 2, 3, 4, 5, 6:
				x = readyStep(1 + chance.Intn(room+1))
			}
			if got, want := x.real(f), x.want(p); got != want || told(f, site) != p.told() {
				t.Fatalf("P701: room %d: %s: %s, %s; want %s, %s", room, x.name, got, told(f, site), want, p.told())
			}
		}
	}
}

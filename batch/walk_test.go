package batch_test

import (
	"fmt"
	"math/rand"
	"slices"
	"strings"
	"testing"

	"landau/api"
	"landau/batch"
)

// plain is a batch as the document tells it: all that ever came, of which some are gone.
type plain struct {
	size, room int
	came       []int
	gone       int
}

func (p *plain) twin() *plain {
	twin := *p
	twin.came = slices.Clone(p.came)
	return &twin
}

func (p *plain) add(x int) api.Errno {
	if len(p.came)-p.gone == p.room {
		return api.ErrFull
	}
	p.came = append(p.came, x)
	return api.OK
}

// take takes away at most most.
func (p *plain) take(most int) []int {
	var out []int
	for len(out) < p.size && len(out) < most && p.gone < len(p.came) {
		out = append(out, p.came[p.gone])
		p.gone++
	}
	return out
}

// told tells what told tells of a batch that is like it.
func (p *plain) told() string {
	left := len(p.came) - p.gone
	first := 0
	if left > 0 {
		first = p.came[p.gone]
	}
	out := fmt.Sprint(left, " first ", first, " ", left > 0, " full ", left >= p.size, " | ")
	var all [][]int
	twin := p.twin()
	for twin.gone < len(twin.came) {
		all = append(all, twin.take(99))
	}
	out += fmt.Sprint(all, " |")
	for i := range api.MaxRoom + 1 {
		if i < p.room-left {
			out += " " + api.OK.Error()
		} else {
			out += " " + api.ErrFull.Error()
		}
	}
	return out
}

// step does the same to both batches, and answers what they ought to tell alike.
type step struct {
	name string
	real func(b *batch.Batch[int]) string
	want func(p *plain) string
}

func addStep(x int) step {
	return step{fmt.Sprint("Add ", x),
		func(b *batch.Batch[int]) string { return b.Add(x).Error() },
		func(p *plain) string { return p.add(x).Error() }}
}

func takeStep(most int) step {
	return step{fmt.Sprint("Take, ", most, " of it"),
		func(b *batch.Batch[int]) string { return fmt.Sprint(taken(b.Take(), most)) },
		func(p *plain) string { return fmt.Sprint(p.take(most)) }}
}

func clearStep() step {
	return step{"Clear",
		func(b *batch.Batch[int]) string { b.Clear(); return "" },
		func(p *plain) string { p.gone = len(p.came); return "" }}
}

// TestAllShortWalks goes every way of a few steps, on a twin each, and holds each against the plain batch.
func TestAllShortWalks(t *testing.T) {
	all := []step{addStep(0), addStep(8), takeStep(1), takeStep(2), takeStep(99), clearStep()}
	for _, c := range [][2]int{{1, 1}, {1, 2}, {2, 2}, {1, 3}, {2, 3}, {3, 3}} {
		var walk func(b *batch.Batch[int], p *plain, way []string)
		walk = func(b *batch.Batch[int], p *plain, way []string) {
			for _, x := range all {
				if len(way) == 5 || t.Failed() {
					return
				}
				twin, like, gone := b.Twin(), p.twin(), append(slices.Clone(way), x.name)
				got, want := x.real(twin), x.want(like)
				if got != want || told(twin) != like.told() {
					t.Errorf("P801: size, room %v: %s: %s, %s; want %s, %s", c, strings.Join(gone, ", "), got, told(twin), want, like.told())
					return
				}
				walk(twin, like, gone)
			}
		}
		walk(made(t, c[0], c[1]), &plain{size: c[0], room: c[1]}, nil)
	}
}

// TestLongWalks goes far, by chance, with batches of all sizes.
func TestLongWalks(t *testing.T) {
	chance := rand.New(rand.NewSource(801))
	for range 60 {
		room := 1 + chance.Intn(64)
		size := 1 + chance.Intn(room)
		b, p := made(t, size, room), &plain{size: size, room: room}
		for i := range 400 {
			x := addStep(i)
			switch chance.Intn(40) {
			case 0:
				x = clearStep()
			case 1, 2, 3:
				x = takeStep(1 + chance.Intn(room+1))
			case 4, 5:
				x = takeStep(99)
			}
			if got, want := x.real(b), x.want(p); got != want || told(b) != p.told() {
				t.Fatalf("P801: size %d, room %d: %s: %s, %s; want %s, %s", size, room, x.name, got, told(b), want, p.told())
			}
		}
	}
}

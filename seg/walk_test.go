package seg_test

import (
	"fmt"
	"maps"
	"math"
	"slices"
	"strings"
	"testing"

	"landau/api"
	"landau/rec"
	"landau/seg"
)

// plain is a segment as the document tells it: what each of its lines left behind.
type plain struct {
	room  int
	lasts int
	lines []string
	left  []state // left[k] holds behind the first k lines
}

// state is what a segment has: of each position the number of its record.
type state struct {
	at           map[int]int
	sealed, trim int
}

func (p *plain) now() state {
	return p.left[len(p.left)-1]
}

func (p *plain) twin() *plain {
	return &plain{p.room, p.lasts, slices.Clone(p.lines), slices.Clone(p.left)}
}

// add writes a line, if there is room, behind which next holds.
func (p *plain) add(line string, next state, sync bool) api.Errno {
	used := len(line) + 1
	for _, l := range p.lines {
		used += len(l) + 1
	}
	if used > p.room {
		return api.ErrFull
	}
	p.lines, p.left = append(p.lines, line), append(p.left, next)
	if sync {
		p.lasts = len(p.lines)
	}
	return api.OK
}

func (p *plain) put(epoch, pos, n int) api.Errno {
	s := p.now()
	_, there := s.at[pos]
	switch {
	case pos < 0 || pos > most || epoch < 1 || epoch > most:
		return api.ErrArg
	case epoch <= s.sealed:
		return api.ErrSealed
	case pos < s.trim:
		return api.ErrTrimmed
	case there:
		return api.ErrTwice
	}
	s.at = maps.Clone(s.at)
	s.at[pos] = n
	return p.add(put(pos, n), s, false)
}

func (p *plain) seal(epoch int) (int, api.Errno) {
	s := p.now()
	if epoch < 1 || epoch > most {
		return 0, api.ErrArg
	}
	if epoch <= s.sealed {
		return 0, api.ErrSealed
	}
	s.sealed = epoch
	if e := p.add(fmt.Sprint("s ", epoch), s, true); e != api.OK {
		return 0, e
	}
	end := s.trim
	for pos := range s.at {
		end = max(end, pos+1)
	}
	return end, api.OK
}

func (p *plain) cut(pos int) api.Errno {
	if pos < 0 || pos > most {
		return api.ErrArg
	}
	s := p.now()
	s.at = maps.Clone(s.at)
	maps.DeleteFunc(s.at, func(at, _ int) bool { return at >= pos })
	return p.add(fmt.Sprint("c ", pos), s, true)
}

func (p *plain) cutOff(pos int) {
	s := p.now()
	if pos <= s.trim || pos > most {
		return
	}
	s.at, s.trim = maps.Clone(s.at), pos
	maps.DeleteFunc(s.at, func(at, _ int) bool { return at < pos })
	p.add(fmt.Sprint("t ", pos), s, true)
}

// crash keeps the lines that last, and of the others those that are whole in keep bytes.
func (p *plain) crash(keep int) {
	whole := p.lasts
	for whole < len(p.lines) && keep > len(p.lines[whole]) {
		keep -= len(p.lines[whole]) + 1
		whole++
	}
	p.lines, p.left, p.lasts = p.lines[:whole], p.left[:whole+1], whole
}

// wrote tells which line wrote the record at pos that is there now.
func (p *plain) wrote(pos int) int {
	n := p.now().at[pos]
	for i := len(p.lines) - 1; i >= 0; i-- {
		if p.lines[i] == put(pos, n) {
			return i
		}
	}
	return math.MaxInt
}

// told tells what told tells of a segment that is like it.
func (p *plain) told() string {
	s := p.now()
	var all []string
	for _, pos := range slices.Sorted(maps.Keys(s.at)) {
		all = append(all, fmt.Sprintf("%d=%s", pos, rec.Text(record(s.at[pos]))))
	}
	out := fmt.Sprintf("%s | sealed %d | %q %d |", strings.Join(all, ", "), s.sealed, p.lines, len(p.lines)-p.lasts)
	for _, pos := range []int{math.MinInt, -1, 0, 1, 2, 3, 4, 5, 6, 7, 8, most - 1, most, most + 1, math.MaxInt} {
		r, e, lasts := rec.Record{}, api.ErrUnwritten, false
		if n, there := s.at[pos]; there {
			r, e, lasts = record(n), api.OK, p.wrote(pos) < p.lasts
		} else if pos < s.trim {
			e = api.ErrTrimmed
		}
		out += fmt.Sprintf(" %d:%s,%v,%v", pos, rec.Text(r), e, lasts)
	}
	return out
}

// step does the same to both segments, and answers what they ought to hold alike.
type step struct {
	name string
	real func(s *seg.Seg, n int) string
	want func(p *plain, n int) string
}

// steps are all that the walk may do; each Put has another record.
func steps() []step {
	var out []step
	for _, a := range [][2]int{{1, 0}, {2, 1}, {1, 3}, {3, 1}} {
		out = append(out, step{fmt.Sprint("Put ", a),
			func(s *seg.Seg, n int) string { return s.Put(a[0], a[1], record(n)).Error() },
			func(p *plain, n int) string { return p.put(a[0], a[1], n).Error() }})
	}
	for _, epoch := range []int{1, 2} {
		out = append(out, step{fmt.Sprint("Seal ", epoch),
			func(s *seg.Seg, _ int) string { return fmt.Sprint(s.Seal(epoch)) },
			func(p *plain, _ int) string { return fmt.Sprint(p.seal(epoch)) }})
	}
	for _, pos := range []int{0, 1, 2} {
		out = append(out, step{fmt.Sprint("Cut ", pos),
			func(s *seg.Seg, _ int) string { return s.Cut(pos).Error() },
			func(p *plain, _ int) string { return p.cut(pos).Error() }})
	}
	for _, pos := range []int{1, 2, 4} {
		out = append(out, step{fmt.Sprint("Trim ", pos),
			func(s *seg.Seg, _ int) string { s.Trim(pos); return "" },
			func(p *plain, _ int) string { p.cutOff(pos); return "" }})
	}
	return append(out, step{"Sync",
		func(s *seg.Seg, _ int) string { s.Disk().Sync(); return "" },
		func(p *plain, _ int) string { p.lasts = len(p.lines); return "" }})
}

// fallen holds what is opened again behind each Crash against the front that the document promises.
func fallen(t *testing.T, s *seg.Seg, p *plain, way []string) {
	t.Helper()
	keeps, bytes := []int{0}, 0
	for _, line := range p.lines[p.lasts:] {
		bytes += len(line) + 1
		keeps = append(keeps, bytes-1, bytes)
	}
	for _, keep := range keeps {
		d, rest := s.Disk().Twin(), p.twin()
		d.Crash(keep)
		rest.crash(keep)
		if got, want := told(opened(t, d)), rest.told(); got != want {
			t.Errorf("P402: %s, Crash(%d): %s; want %s", strings.Join(way, ", "), keep, got, want)
			return
		}
	}
}

// TestAllShortWalks goes every way of a few steps, on a twin each, holds each against the plain segment, and opens it again.
func TestAllShortWalks(t *testing.T) {
	all := steps()
	var walk func(s *seg.Seg, p *plain, way []string, steps int)
	walk = func(s *seg.Seg, p *plain, way []string, steps int) {
		fallen(t, s, p, way)
		if steps == 0 {
			return
		}
		for _, x := range all {
			if t.Failed() {
				return
			}
			twin, next, gone := s.Twin(), p.twin(), append(slices.Clone(way), x.name)
			got, want := x.real(twin, len(gone)), x.want(next, len(gone))
			if got != want || told(twin) != next.told() {
				t.Errorf("P401: %s: %s, %s; want %s, %s", strings.Join(gone, ", "), got, told(twin), want, next.told())
				return
			}
			if got := told(opened(t, twin.Disk().Twin())); got != next.told() {
				t.Errorf("P402: %s, opened again: %s; want %s", strings.Join(gone, ", "), got, next.told())
				return
			}
			walk(twin, next, gone, steps-1)
		}
	}
	for room, steps := range map[int]int{5: 2, 41: 3, 99: 4} {
		walk(made(t, room), &plain{room: room, left: []state{{at: map[int]int{}}}}, nil, steps)
	}
}

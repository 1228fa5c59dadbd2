package maint_test

import (
	"fmt"
	"maps"
	"math/rand"
	"slices"
	"strings"
	"testing"

	"landau/api"
	"landau/maint"
	"landau/rec"
	"landau/vec"
)

// plain is a log as the document tells it: disks of lines, and what they tell each time they are asked.
type plain struct {
	room   int
	stripe int // of the first epoch
	disks  [9]file
	next   int
	down   bool
}

// file is a disk; its first so many lines last.
type file struct {
	lines []line
	lasts int
}

// line is a line with what it tells: its sign, a number, of a put the record's number, of a map its spans.
type line struct {
	text  string
	sign  byte
	n     int
	rec   int
	spans [][2]int
	gone  vec.Vec
}

// own is the place of the log's own disk.
const own = 8

func (f *file) used() int {
	used := 0
	for _, l := range f.lines {
		used += len(l.text) + 1
	}
	return used
}

func (f *file) crash(keep int) {
	whole := f.lasts
	for whole < len(f.lines) && keep > len(f.lines[whole].text) {
		keep -= len(f.lines[whole].text) + 1
		whole++
	}
	f.lines, f.lasts = f.lines[:whole], whole
}

// slots tells which line has which position.
func (f *file) slots() map[int]int {
	at := map[int]int{}
	for i, l := range f.lines {
		switch l.sign {
		case 'p':
			at[l.n] = i
		case 'c':
			maps.DeleteFunc(at, func(pos, _ int) bool { return pos >= l.n })
		case 't':
			maps.DeleteFunc(at, func(pos, _ int) bool { return pos < l.n })
		}
	}
	return at
}

// last tells the number of the last line of a sign; 0: there is none.
func (f *file) last(sign byte) int {
	for _, l := range slices.Backward(f.lines) {
		if l.sign == sign {
			return l.n
		}
	}
	return 0
}

func (p *plain) twin() *plain {
	twin := *p
	for k := range twin.disks {
		twin.disks[k].lines = slices.Clone(p.disks[k].lines)
	}
	return &twin
}

// write puts a line on a disk, and syncs that, if it shall last.
func (p *plain) write(k int, l line, sync bool) api.Errno {
	f := &p.disks[k]
	if f.used()+len(l.text)+1 > p.room {
		return api.ErrFull
	}
	f.lines = append(f.lines, l)
	if sync {
		f.lasts = len(f.lines)
	}
	return api.OK
}

func (p *plain) spans() [][2]int {
	spans := [][2]int{{0, p.stripe}}
	for _, l := range p.disks[own].lines {
		if l.sign == 'm' {
			spans = l.spans
		}
	}
	return spans
}

func (p *plain) trimmed() (int, vec.Vec) {
	for _, l := range slices.Backward(p.disks[own].lines) {
		if l.sign == 't' && !p.down {
			return l.n, l.gone
		}
	}
	return 0, nil
}

// place tells epoch and stripe of a position.
func (p *plain) place(pos int) (int, int) {
	epoch, k := 0, 0
	for i, span := range p.spans() {
		if span[0] <= pos {
			epoch, k = i+1, (pos-span[0])%span[1]
		}
	}
	return epoch, k
}

// has tells the number of the record at pos, and whether it lasts; 0: there is none.
func (p *plain) has(pos int) (int, bool) {
	_, k := p.place(pos)
	i, there := p.disks[k].slots()[pos]
	if !there {
		return 0, false
	}
	return p.disks[k].lines[i].rec, i < p.disks[k].lasts
}

func (p *plain) head() int {
	if p.down {
		return 0
	}
	head, _ := p.trimmed()
	for {
		if _, lasts := p.has(head); !lasts || head >= p.next {
			return head
		}
		head++
	}
}

// vector tells the vector of what is below to.
func (p *plain) vector(to int) vec.Vec {
	trim, v := p.trimmed()
	var sites [8]int
	copy(sites[:], v)
	for pos := trim; pos < to; pos++ {
		n, _ := p.has(pos)
		sites[record(n).Site] = record(n).Seq
	}
	return sites[:]
}

func (p *plain) put(pos, n int) api.Errno {
	if p.down {
		return api.ErrDown
	}
	if pos != p.next {
		return api.ErrArg
	}
	epoch, k := p.place(pos)
	if epoch <= p.disks[k].last('s') {
		return api.ErrSealed
	}
	e := p.write(k, line{text: put(pos, n), sign: 'p', n: pos, rec: n}, false)
	if e == api.OK {
		p.next++
	}
	return e
}

func (p *plain) get(pos int) (int, api.Errno) {
	trim, _ := p.trimmed()
	switch {
	case p.down:
		return 0, api.ErrDown
	case pos < 0:
		return 0, api.ErrArg
	case pos < trim:
		return 0, api.ErrTrimmed
	case pos >= p.next:
		return 0, api.ErrUnwritten
	}
	n, _ := p.has(pos)
	return n, api.OK
}

func (p *plain) trim(pos int, v vec.Vec) api.Errno {
	trim, _ := p.trimmed()
	switch {
	case p.down:
		return api.ErrDown
	case pos < trim || pos > p.head() || vec.Text(v) != vec.Text(p.vector(pos)):
		return api.ErrArg
	}
	if e := p.write(own, line{text: fmt.Sprint("t ", pos, " ", vec.Text(v)), sign: 't', n: pos, gone: v}, true); e != api.OK {
		return e
	}
	for k := range own {
		if pos > p.disks[k].last('t') {
			p.write(k, line{text: fmt.Sprint("t ", pos), sign: 't', n: pos}, true)
		}
	}
	return api.OK
}

func (p *plain) sync(k int) bool {
	if p.down || k < 0 || k >= own || p.disks[k].lasts == len(p.disks[k].lines) {
		return false
	}
	p.disks[k].lasts = len(p.disks[k].lines)
	return true
}

func (p *plain) resize(n int) api.Errno {
	switch {
	case p.down:
		return api.ErrDown
	case n < 1 || n > 8:
		return api.ErrArg
	case p.head() != p.next:
		return api.ErrState
	}
	spans := append(slices.Clone(p.spans()), [2]int{p.next, n})
	for k := range own {
		if p.disks[k].last('s') < len(spans)-1 && p.write(k, line{text: fmt.Sprint("s ", len(spans)-1), sign: 's', n: len(spans) - 1}, true) != api.OK {
			p.down = true
			return api.ErrFull
		}
	}
	text := "m"
	for _, span := range spans {
		text += fmt.Sprintf(" %d/%d", span[0], span[1])
	}
	if e := p.write(own, line{text: text, sign: 'm', spans: spans}, true); e != api.OK {
		p.down = true
		return e
	}
	return api.OK
}

func (p *plain) crash(keep []int) {
	for k := range p.disks {
		p.disks[k].crash(append(slices.Clone(keep), make([]int, own+1)...)[k] * min(1, own-k))
	}
	p.down = true
}

func (p *plain) recover() api.Errno {
	if !p.down {
		return api.ErrState
	}
	was := p.twin()
	p.down, p.next = false, 1<<30
	p.next = p.head()
	above := false
	for k := range own {
		for pos := range p.disks[k].slots() {
			above = above || pos >= p.next
		}
	}
	for k := 0; above && k < own; k++ {
		if e := p.write(k, line{text: fmt.Sprint("c ", p.next), sign: 'c', n: p.next}, true); e != api.OK {
			*p = *was
			return e
		}
	}
	return api.OK
}

// told tells what told tells of a log that is like it.
func (p *plain) told() string {
	trim, gone := p.trimmed()
	next, head, v := p.next, p.head(), p.vector(p.head())
	if p.down {
		next = 0
	}
	spans := p.spans()
	out := fmt.Sprint(p.down, " ", head, "/", next, " ", trim, vec.Text(gone), " ", vec.Text(v), " ", len(spans), ":", spans[len(spans)-1][1], " |")
	for pos := trim; pos < head; pos++ {
		n, _ := p.has(pos)
		out += fmt.Sprint(" ", pos, "=", rec.Text(record(n)))
	}
	out += " |"
	for pos := -1; pos < 12; pos++ {
		n, e := p.get(pos)
		out += fmt.Sprint(" ", n, e)
	}
	for _, f := range p.disks {
		var lines []string
		for _, l := range f.lines {
			lines = append(lines, l.text)
		}
		out += fmt.Sprintf(" %q %d", lines, len(f.lines)-f.lasts)
	}
	return out
}

// step does the same to both logs, and answers what they ought to hold alike; n is the number of a record.
type step struct {
	name string
	real func(l *maint.Log, v vec.Vec, n int) string
	want func(p *plain, v vec.Vec, n int) string
	pos  func(p *plain) int // which vector they are handed: that of what is below it
}

func zero(*plain) int { return 0 }

func errno(e api.Errno) string { return e.Error() }

// steps are all that the walks may do.
func steps() []step {
	out := []step{
		{"Put", func(l *maint.Log, _ vec.Vec, n int) string { return errno(l.Put(l.Next(), record(n))) },
			func(p *plain, _ vec.Vec, n int) string { return errno(p.put(p.next, n)) }, zero},
		{"Put too far", func(l *maint.Log, _ vec.Vec, n int) string { return errno(l.Put(l.Next()+1, record(n))) },
			func(p *plain, _ vec.Vec, n int) string { return errno(p.put(p.next+1, n)) }, zero},
		{"Recover", func(l *maint.Log, _ vec.Vec, _ int) string { return errno(l.Recover()) },
			func(p *plain, _ vec.Vec, _ int) string { return errno(p.recover()) }, zero},
	}
	for _, k := range []int{0, 1, 2} {
		out = append(out, step{fmt.Sprint("Sync ", k),
			func(l *maint.Log, _ vec.Vec, _ int) string { return fmt.Sprint(l.Sync(k)) },
			func(p *plain, _ vec.Vec, _ int) string { return fmt.Sprint(p.sync(k)) }, zero})
	}
	for name, pos := range map[string]func(p *plain) int{
		"Trim to Head":             func(p *plain) int { return p.head() },
		"Trim to one below Head":   func(p *plain) int { return p.head() - 1 },
		"Trim to one above a trim": func(p *plain) int { trim, _ := p.trimmed(); return trim + 1 },
	} {
		out = append(out, step{name,
			func(l *maint.Log, v vec.Vec, n int) string { return errno(l.Trim(n, v)) },
			func(p *plain, v vec.Vec, n int) string { return errno(p.trim(n, v)) }, pos})
	}
	for _, n := range []int{1, 2, 3} {
		out = append(out, step{fmt.Sprint("Resize ", n),
			func(l *maint.Log, _ vec.Vec, _ int) string { return errno(l.Resize(n)) },
			func(p *plain, _ vec.Vec, _ int) string { return errno(p.resize(n)) }, zero})
	}
	for _, keep := range [][]int{nil, {40}, {20, 19}, {0, 99, 99}} {
		out = append(out, step{fmt.Sprint("Crash ", keep),
			func(l *maint.Log, _ vec.Vec, _ int) string { l.Crash(keep); return "" },
			func(p *plain, _ vec.Vec, _ int) string { p.crash(keep); return "" }, zero})
	}
	slices.SortFunc(out, func(a, b step) int { return strings.Compare(a.name, b.name) })
	return out
}

// do takes a step with both, and holds what they tell against each other.
func (x step) do(t *testing.T, l *maint.Log, p *plain, n int, way []string) {
	t.Helper()
	var v vec.Vec
	if pos := x.pos(p); strings.HasPrefix(x.name, "Trim") {
		n = pos
		v = p.vector(max(pos, 0))
	}
	was := told(l)
	got, want := x.real(l, v, n), x.want(p, v, n)
	if got != want || told(l) != p.told() {
		t.Errorf("P601, P602: %s, %s: %s, %s; want %s, %s; was %s", strings.Join(way, ", "), x.name, got, told(l), want, p.told(), was)
	}
	if (got == "arg" || got == "state" || got == "sealed" || got == "full" && !strings.HasPrefix(x.name, "Resize")) && told(l) != was {
		t.Errorf("P5: %s, %s: %s, was %s", strings.Join(way, ", "), x.name, told(l), was)
	}
}

// TestAllShortWalks goes every way of a few steps, on a twin each, and holds each against the plain log.
func TestAllShortWalks(t *testing.T) {
	all := steps()
	var walk func(l *maint.Log, p *plain, way []string, left int)
	walk = func(l *maint.Log, p *plain, way []string, left int) {
		for _, x := range all {
			if t.Failed() {
				return
			}
			twin, next := l.Twin(), p.twin()
			x.do(t, twin, next, len(way)+1, way)
			if left > 1 {
				walk(twin, next, append(slices.Clone(way), x.name), left-1)
			}
		}
	}
	for _, c := range []struct {
		stripes, room, steps int
		first                string
	}{
		{2, 999, 3, ""},
		{1, 30, 3, ""},
		{2, 200, 3, "Put,Put,Put,Sync 0,Put,Put"},
		{3, 60, 3, "Put,Put,Put,Put,Sync 1,Put"},
		{3, 200, 3, "Put,Put,Put,Sync 0,Sync 1,Sync 2,Resize 2,Put,Put,Sync 0,Put,Trim to one above a trim"},
		{2, 60, 2, "Put,Put,Sync 0,Sync 1,Resize 1,Resize 3,Put,Put,Put,Sync 2"},
	} {
		l, p := made(t, c.stripes, c.room), &plain{room: c.room, stripe: c.stripes}
		var way []string
		for _, name := range strings.FieldsFunc(c.first, func(c rune) bool { return c == ',' }) {
			i := slices.IndexFunc(all, func(x step) bool { return x.name == name })
			all[i].do(t, l, p, len(way)+1, way)
			way = append(way, name)
		}
		walk(l, p, way, c.steps)
	}
}

// TestLongWalks goes long ways by chance, and sees to it that what was below the head stays, whatever falls.
func TestLongWalks(t *testing.T) {
	all := steps()
	for seed := range 60 {
		chance := rand.New(rand.NewSource(int64(seed)))
		stripes, room := 1+chance.Intn(4), 60+chance.Intn(500)
		l, p := made(t, stripes, room), &plain{room: room, stripe: stripes}
		kept := map[int]string{}
		way := []string{fmt.Sprint("seed ", seed)}
		for n := range 150 {
			x := all[chance.Intn(len(all))]
			switch {
			case l.Down() && chance.Intn(2) == 0:
				x = all[slices.IndexFunc(all, func(x step) bool { return x.name == "Recover" })]
			case !l.Down() && chance.Intn(2) == 0:
				x = all[slices.IndexFunc(all, func(x step) bool { return x.name == "Put" })]
			case strings.HasPrefix(x.name, "Crash"):
				keep := []int{chance.Intn(50), chance.Intn(50), chance.Intn(50), chance.Intn(50)}
				x = step{fmt.Sprint("Crash ", keep),
					func(l *maint.Log, _ vec.Vec, _ int) string { l.Crash(keep); return "" },
					func(p *plain, _ vec.Vec, _ int) string { p.crash(keep); return "" }, zero}
			}
			x.do(t, l, p, n+1, way)
			way = append(way, x.name)
			trim, _ := l.Trimmed()
			for pos, text := range kept {
				if r, e := l.Get(pos); !l.Down() && !(e == api.OK && rec.Text(r) == text && pos < l.Head() || e == api.ErrTrimmed && pos < trim) {
					t.Errorf("P602: %v: %d was %s, is %v, %v", way, pos, text, r, e)
				}
			}
			for pos, r := range l.All(0) {
				kept[pos] = rec.Text(r)
			}
			if t.Failed() {
				return
			}
		}
	}
}
